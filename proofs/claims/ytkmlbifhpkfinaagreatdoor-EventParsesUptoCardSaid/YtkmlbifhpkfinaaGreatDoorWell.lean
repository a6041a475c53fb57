/- wellNamed of schemas, as a contract. -/
import Derived.Test.YtkmlbifhpkfinaaGreatDoorChk
namespace Go.Proofs.YtkmlbifhpkfinaaGreatDoor
open Go.ChangeShapes Go.WideShapes Go.ChangeAt Go.RowKit
set_option linter.unusedVariables false
set_option linter.unusedSimpArgs false

def scells (l : List ByteArray) : List Value := l.map Value.string
theorem scells_snoc {α : Type} (f : α → ByteArray) (l : List α) (k : Nat) (x : α) (h : l[k]? = some x) : scells ((l.map f).take (k + 1)) = scells ((l.map f).take k) ++ [.string (f x)] := by
  rw [List.take_add_one, List.getElem?_map, h]
  simp [scells]
theorem own_scells {w : World} {base : Nat} {e : TypeId} {v : Value} {ss : List ByteArray} (h : w.ownsRow base e 1 v ss.length (scells ss)) : SymsIn w v ss := own_syms h
theorem syms_slice {w : World} {v : Value} {ss : List ByteArray} (h : SymsIn w v ss) : ∃ A cap, v = .slice A ss.length cap ∧ ss.length ≤ cap ∧ cap ≤ maxLen ∧ SymsAt w A ss := by
  obtain ⟨A, cap, e, ⟨h1, h2⟩, h⟩ := h
  exact ⟨A, cap, e, h1, h2, h⟩
def WellP (ts : List ST) (ss : List ByteArray) : Prop := (∀ (i : Nat) (t : ST), ts[i]? = some t → DistinctP (t.2.map (·.1))) ∧ DistinctP (ts.map (·.1)) ∧ DistinctP ss
theorem infoStr : (Tryz.prog.info? 9).map (fun i => (i.zero, i.size, i.bytes)) = some (some (.string ⟨#[]⟩), 1, 16) := by kernel_rfl

def WR (u : World) (ts : List ST) (v i : Value) (wr : World) : Prop :=
  ∃ k : Nat, k ≤ ts.length ∧ i = .int .i64 (k : Int) ∧ wr.ownsRow u.heap.size 9 1 v k (scells ((ts.map (·.1)).take k)) ∧ Below u.heap.size u wr ∧ Hid (∀ (i : Nat) (t : ST), i < k → ts[i]? = some t → DistinctP (t.2.map (·.1)))
def WI (wb : World) (fs : List SF) (v i : Value) (wr : World) : Prop :=
  ∃ k : Nat, k ≤ fs.length ∧ i = .int .i64 (k : Int) ∧ wr.ownsRow wb.heap.size 9 1 v k (scells ((fs.map (·.1)).take k)) ∧ Below wb.heap.size wb wr

set_option maxHeartbeats 8000000 in
set_option maxRecDepth 100000 in
theorem well_any (A B : Option Addr) (cap capB : Nat) (ts : List ST) (ss : List ByteArray) (w : World) (hc : TypesAt w A ts) (hs : SymsAt w B ss) (b1 : ts.length * 40 ≤ 140737488351232) (b2 : ∀ t ∈ ts, t.2.length * 24 ≤ 140737488351232) (hB1 : ss.length ≤ capB) (hB2 : capB ≤ maxLen) :
    Calls Tryz.prog 48 #[.agg #[.slice A ts.length cap, .slice B ss.length capB]] w (Tells (WellP ts ss) w) := by
  obtain ⟨i0, hi, hz0, hz1, hz2⟩ := info_parts infoStr
  have hu := m1 w (.cells #[.slice A ts.length cap, .slice B ss.length capB] 31)
  have c0 : (w.alloc (.cells #[.slice A ts.length cap, .slice B ss.length capB] 31)).cell? ⟨w.heap.size, 0, none⟩ = some (.slice A ts.length cap) := by simp [go_sem]
  have c1 : (w.alloc (.cells #[.slice A ts.length cap, .slice B ss.length capB] 31)).cell? ⟨w.heap.size, 1, none⟩ = some (.slice B ss.length capB) := by simp [go_sem]
  have hs0 : (w.alloc (.cells #[.slice A ts.length cap, .slice B ss.length capB] 31)).heap.size = w.heap.size + 1 := by simp
  replace hc := Lib.hid (hc.later hu)
  replace hs := Lib.hid (hs.later hu)
  replace b2 := Lib.hid b2
  go_enter Tryz.func48, Tryz.ntmps48
  go_wp2_with fail
  rw [← hs0]
  generalize w.alloc (.cells #[.slice A ts.length cap, .slice B ss.length capB] 31) = u at *
  replace hs0 := Lib.hid hs0
  replace c1 := Lib.hid c1
  clear c0
  go_loopw [3, 13] (fun v i wr => WR u ts v i wr) (fun _ i _ => ts.length - (intOf i).toNat)
  case atStart => exact ⟨0, Nat.zero_le _, rfl, World.ownsRow_made u #[] 0 (Nat.le_refl _) (by unfold maxLen; omega) rfl, m1 _ _, Lib.hid (fun i t h => by omega)⟩
  case round =>
    obtain ⟨k, hk, rfl, hO, hB, H⟩ := hrel
    by_cases hlt : k < ts.length
    · have hx : ts[k]? = some ts[k] := List.getElem?_eq_getElem hlt
      have hfb := b2.out _ (List.getElem_mem hlt)
      have SN := Lib.hid (scells_snoc (fun t : ST => t.1) ts k _ hx)
      generalize ts[k] = x at *
      obtain ⟨nm, fs⟩ := x
      obtain ⟨b, off, FA, fcap, rfl, r0, r1, hF⟩ := hc.out.at_ hx
      have SN2 : scells ((ts.map (·.1)).take (k + 1)) = scells ((ts.map (·.1)).take k) ++ [.string nm] := SN.out
      replace SN2 := Lib.hid SN2
      have r0 : _ = some (Value.string nm) := cell_later hB r0
      have r1 : _ = some (Value.slice FA fs.length fcap) := cell_later hB r1
      have hF : FieldsAt u FA fs := hF
      have hfb : fs.length * 24 ≤ 140737488351232 := hfb
      replace hx := Lib.hid hx
      replace hF := Lib.hid hF
      have k0 : (0 : Int) ≤ (k : Int) := by omega
      have k1 : (k : Int) < (ts.length : Int) := by omega
      obtain ⟨wo, rfl⟩ : ∃ wo : World, wo = wr := ⟨_, rfl⟩
      have hs1 := hB.size
      clear SN
      go_wp2_with (at_builtin; refine wpList_append_own _ rfl (.tmp 17) (.tmp 20) 23 rfl u.heap.size 9 i0 (.string ⟨#[]⟩) 1 16 Tryz.underlying23 hi hz0 hz1 hz2 rfl (by decide) u3 k (scells ((ts.map (·.1)).take k)) rfl ((hO.alloc _).alloc _) ⟨wo.heap.size + 1, 0, none⟩ 1 1 [.string nm] rfl rfl ?c1 ?c2 ?c3 ?c4 ?c5 ?_)
      case c2 => rfl
      case c3 => unfold maxLen; omega
      case c4 => omega
      case c5 => first | omega | (simp; omega)
      intro v' w3 hO3 hgrow _
      rw [← SN2.out] at hO3
      have q1 : w3.cell? ⟨wo.heap.size, 1, none⟩ = some (.slice FA fs.length fcap) := hgrow.cell (by simp [go_sem]) (fun e => Nat.lt_irrefl _ (hO.lt _ e.symm).2)
      have hB3 : Below u.heap.size u w3 := ((hB.alloc hs1 _).alloc (by simp; omega) _).grown hgrow (by simp; omega) (fun g hg => (hO.lt g hg).1)
      have hlt3 : wo.heap.size < w3.heap.size := mblock q1
      have ne3 : ¬ wo.heap.size = w3.heap.size := by omega
      have ne4 : ¬ w3.heap.size = wo.heap.size := by omega
      clear hO hgrow r0 r1 hB hs1 SN2
      go_wp2_with fail
      go_loopw [6, 26] (fun v i wr => WI w3 fs v i wr) (fun _ i _ => fs.length - (intOf i).toNat)
      case atStart => exact ⟨0, Nat.zero_le _, rfl, World.ownsRow_made w3 #[] 0 (Nat.le_refl _) (by unfold maxLen; omega) rfl, m1 _ _⟩
      case round =>
        obtain ⟨j, hj, rfl, hA, hBi⟩ := hrel
        clear q1
        have hBu := mmore hB3 hBi
        by_cases hjl : j < fs.length
        · obtain ⟨fb, foff, rfl, hfc⟩ := (hF.out.later hBu) (by omega)
          have hy : fs[j]? = some fs[j] := List.getElem?_eq_getElem hjl
          have SN := Lib.hid (scells_snoc (fun f : SF => f.1) fs j _ hy)
          obtain ⟨r0, r1⟩ := hfc j _ hy
          generalize fs[j] = y at *
          obtain ⟨fn, fk⟩ := y
          have SN2 : scells ((fs.map (·.1)).take (j + 1)) = scells ((fs.map (·.1)).take j) ++ [.string fn] := SN.out
          replace SN2 := Lib.hid SN2
          simp only at r0 r1
          have j0 : (0 : Int) ≤ (j : Int) := by omega
          have j1 : (j : Int) < (fs.length : Int) := by omega
          have hs3 := hBi.size
          clear SN hfc hy
          go_wp2_with (at_builtin; refine wpList_append_own _ rfl (.tmp 30) (.tmp 33) 23 rfl w3.heap.size 9 i0 (.string ⟨#[]⟩) 1 16 Tryz.underlying23 hi hz0 hz1 hz2 rfl (by decide) u6 j (scells ((fs.map (·.1)).take j)) rfl ((hA.alloc _).alloc _) ⟨wr.heap.size + 1, 0, none⟩ 1 1 [.string fn] rfl rfl ?d1 ?d2 ?d3 ?d4 ?d5 ?_)
          case d2 => rfl
          case d3 => unfold maxLen; omega
          case d4 => omega
          case d5 => first | omega | (simp; omega)
          intro v6 w4 hA4 hgrow _
          rw [← SN2.out] at hA4
          have hB4 : Below w3.heap.size w3 w4 := ((hBi.alloc hs3 _).alloc (by simp; omega) _).grown hgrow (by simp; omega) (fun g hg => (hA.lt g hg).1)
          clear hA hgrow r0 r1 hBi hBu hs3 SN2
          go_wp2
          go_roundw
          case rel => exact ⟨j + 1, by omega, by go_num, hA4, hB4⟩
          case measure => simp [intOf]; omega
        · obtain rfl : j = fs.length := by omega
          have ml : (fs.map (·.1)).length = fs.length := by simp
          rw [← ml, List.take_length] at hA
          obtain ⟨A6, cap6, e6, h61, h62, hS6⟩ := syms_slice (own_scells hA)
          rw [ml] at e6
          subst e6
          have CD := distinct_any A6 cap6 _ wr hS6 h61 h62
          rw [ml] at CD
          have hO5 := mown_below hO3 hBi
          replace CD := Lib.hid CD
          replace ml := Lib.hid ml
          clear hA hS6 h61 h62
          go_wp2_with fail
          refine CD.out.mono ?_; rintro e w5 ⟨q, rfl, hq, hb5⟩
          have hO6 := mown_below hO5 hb5
          have hB6 := mmore hBu hb5
          clear hO5 CD hb5
          cases q
          · have hN : ¬ DistinctP (fs.map (·.1)) := by simpa using hq
            replace hN := Lib.hid hN
            clear hq
            go_wp2_with fail
            go_ret
            exact tells_no (fun h => hN.out (h.1 k _ hx.out)) (mmore hu hB6)
          · have hN : DistinctP (fs.map (·.1)) := by simpa using hq
            replace hN := Lib.hid hN
            clear hq
            go_wp2_with fail
            go_roundw
            case rel => exact ⟨k + 1, by omega, by go_num, hO6, hB6, Lib.hid (fun i t h ht => by
              by_cases c : i < k
              · exact H.out i t c ht
              · obtain rfl : i = k := by omega
                rw [hx.out] at ht
                injection ht with ht
                subst ht
                exact hN.out)⟩
            case measure => simp [intOf]; omega
    · obtain rfl : k = ts.length := by omega
      have ml : (ts.map (·.1)).length = ts.length := by simp
      rw [← ml, List.take_length] at hO
      obtain ⟨A6, cap6, e6, h61, h62, hS6⟩ := syms_slice (own_scells hO)
      rw [ml] at e6
      subst e6
      have CD := distinct_any A6 cap6 _ wr hS6 h61 h62
      rw [ml] at CD
      replace CD := Lib.hid CD
      replace ml := Lib.hid ml
      have q1 := cell_later hB c1.out
      clear hO hS6 h61 h62
      go_wp2_with fail
      refine CD.out.mono ?_; rintro e w5 ⟨q, rfl, hq, hb5⟩
      have hB6 := mmore hB hb5
      have q1 := cell_later hb5 q1
      clear CD hb5
      cases q
      · have hN : ¬ DistinctP (ts.map (·.1)) := by simpa using hq
        replace hN := Lib.hid hN
        clear hq
        go_wp2_with fail
        go_ret
        exact tells_no (fun h => hN.out h.2.1) (mmore hu hB6)
      · have hN : DistinctP (ts.map (·.1)) := by simpa using hq
        replace hN := Lib.hid hN
        clear hq
        have CS := Lib.hid (distinct_any B capB ss w5 (hs.out.later hB6) hB1 hB2)
        go_wp2_with fail
        refine CS.out.mono ?_; rintro e w6 ⟨q, rfl, hq, hb5⟩
        have hB7 := mmore hu (mmore hB6 hb5)
        go_wp2_with fail
        go_ret
        exact ⟨q, rfl, ⟨fun h => ⟨fun i t ht => H.out i t (List.getElem?_eq_some_iff.1 ht).1 ht, hN.out, hq.1 h⟩, fun h => hq.2 h.2.2⟩, hB7⟩
end Go.Proofs.YtkmlbifhpkfinaaGreatDoor
