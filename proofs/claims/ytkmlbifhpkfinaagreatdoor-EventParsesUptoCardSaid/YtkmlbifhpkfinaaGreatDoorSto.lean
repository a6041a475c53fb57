/- The document's schema carried to the program's ('To'), as a contract, for every schema. -/
import Derived.Test.YtkmlbifhpkfinaaGreatDoorSch
import Derived.Test.YtkmlbifhpkfinaaGreatDoorWords
namespace Go.Proofs.YtkmlbifhpkfinaaGreatDoor
open Go.ChangeShapes Go.WideShapes Go.ChangeAt Go.RowKit
set_option linter.unusedVariables false
set_option linter.unusedSimpArgs false

theorem infoField : (Tryz.prog.info? 57).map (fun i => (i.zero, i.size, i.bytes)) = some (some (.agg #[.string ⟨#[]⟩, .int .i64 0]), 2, 24) := by kernel_rfl
theorem infoType : (Tryz.prog.info? 54).map (fun i => (i.zero, i.size, i.bytes)) = some (some (.agg #[.string ⟨#[]⟩, .slice none 0 0]), 2, 40) := by kernel_rfl
theorem infoText : (Tryz.prog.info? 9).map (fun i => (i.zero, i.size, i.bytes)) = some (some (.string ⟨#[]⟩), 1, 16) := by kernel_rfl

theorem block_of_add' {w : World} {b off : Nat} {v : Value} (h : w.cell? ⟨b, off, none⟩ = some v) : b < w.heap.size := mblock h
theorem own_one {w : World} {base : Nat} {e : TypeId} {size n : Nat} {v : Value} {xs : List Value} (h : w.ownsRow base e size v n xs) : v.oneCell' = true := by
  rcases h.2 with ⟨rfl, _⟩ | ⟨g, cap, cur, rfl, _⟩ <;> rfl

def TR (u0 : World) (ts : List ST) (i : Value) (wr : World) : Prop :=
  ∃ k : Nat, k ≤ ts.length ∧ i = .int .i64 (k : Int) ∧ ∃ (v : Value) (us : List Value), us.length = k ∧ Blk wr u0.heap.size 31 #[v, .slice none 0 0] ∧ wr.ownsRow u0.heap.size 54 2 v k (tcells (ts.take k) us) ∧
    (∀ (i : Nat) (t : ST) (u : Value), (ts.take k)[i]? = some t → us[i]? = some u → wr.ownsRow u0.heap.size 57 2 u t.2.length (fcells t.2)) ∧ Below u0.heap.size u0 wr
def FR (wb : World) (g6 : Nat) (nm : ByteArray) (fs : List SF) (i : Value) (wr : World) : Prop :=
  ∃ j : Nat, j ≤ fs.length ∧ i = .int .i64 (j : Int) ∧ ∃ v6 : Value, Blk wr g6 54 #[.string nm, v6] ∧ wr.ownsRow wb.heap.size 57 2 v6 j (fcells (fs.take j)) ∧ wb.grownBy wr (some g6)

set_option maxHeartbeats 8000000 in
set_option maxRecDepth 100000 in
theorem sto_any (v1 v2 : Value) (ts : List ST) (ss : List ByteArray) (w : World) (h1 : TypesIn w v1 ts) (h2 : SymsIn w v2 ss) (b1 : ts.length * 40 ≤ 140737488351232) (b2 : ∀ t ∈ ts, t.2.length * 24 ≤ 140737488351232) (b3 : ss.length * 16 ≤ 140737488351232) :
    Calls Tryz.prog 6 #[.agg #[v1, v2]] w fun e w' => ∃ v1' v2', e = .returned (.agg #[v1', v2']) ∧ TypesIn w' v1' ts ∧ SymsIn w' v2' ss ∧ Below w.heap.size w w' := by
  obtain ⟨i0, hi, hz0, hz1, hz2⟩ := info_parts infoField
  obtain ⟨j0, hj, hy0, hy1, hy2⟩ := info_parts infoType
  obtain ⟨k0, hk0, hx0, hx1, hx2⟩ := info_parts infoText
  obtain ⟨A, cap, rfl, hc0⟩ := h1
  obtain ⟨B, capS, rfl, _, hs0⟩ := h2
  replace hc0 := Lib.hid hc0
  replace hs0 := Lib.hid hs0
  replace b2 := Lib.hid b2
  go_enter Tryz.func6, Tryz.ntmps6
  go_wp2_with fail
  have hu0 := m2 w (.cells #[.slice A ts.length cap, .slice B ss.length capS] 25) (.cells #[.slice none 0 0, .slice none 0 0] 31)
  have c1 : ((w.alloc (.cells #[.slice A ts.length cap, .slice B ss.length capS] 25)).alloc (.cells #[.slice none 0 0, .slice none 0 0] 31)).cell? ⟨w.heap.size, 1, none⟩ = some (.slice B ss.length capS) := by simp [go_sem]
  have k2 : Blk ((w.alloc (.cells #[.slice A ts.length cap, .slice B ss.length capS] 25)).alloc (.cells #[.slice none 0 0, .slice none 0 0] 31)) (w.heap.size + 1) 31 #[.slice none 0 0, .slice none 0 0] := by
    have := Blk.made (w.alloc (.cells #[.slice A ts.length cap, .slice B ss.length capS] 25)) 31 #[.slice none 0 0, .slice none 0 0]
    simpa using this
  have k3 := Blk.made ((w.alloc (.cells #[.slice A ts.length cap, .slice B ss.length capS] 25)).alloc (.cells #[.slice none 0 0, .slice none 0 0] 31)) 31 #[.slice none 0 0, .slice none 0 0]
  have e3 : ((w.alloc (.cells #[.slice A ts.length cap, .slice B ss.length capS] 25)).alloc (.cells #[.slice none 0 0, .slice none 0 0] 31)).heap.size = w.heap.size + 1 + 1 := by simp
  rw [← e3]
  generalize (w.alloc (.cells #[.slice A ts.length cap, .slice B ss.length capS] 25)).alloc (.cells #[.slice none 0 0, .slice none 0 0] 31) = u0 at *
  replace e3 := Lib.hid e3
  have C1 := Lib.hid (And.intro c1 k2)
  clear c1 k2
  go_loopw [12] (fun i wr => TR u0 ts i wr) (fun i _ => ts.length - (intOf i).toNat)
  case atStart => exact ⟨0, Nat.zero_le _, rfl, .slice none 0 0, [], rfl, k3, World.ownsRow_nil _ _ _ _, fun i t u h => by simp at h, m1 _ _⟩
  case round =>
    obtain ⟨k, hk, rfl, v, us, hl, hG, hT, hU, hB⟩ := hrel
    clear k3
    obtain ⟨wo, rfl⟩ : ∃ wo : World, wo = wr := ⟨_, rfl⟩
    by_cases hlt : k < ts.length
    · obtain ⟨b, off, rfl, hcell⟩ := hc0.out (by omega)
      have hvk : ts[k]? = some ts[k] := List.getElem?_eq_getElem hlt
      obtain ⟨uf, r0, r1, hF⟩ := hcell k _ hvk
      have hfb := b2.out _ (List.getElem_mem hlt)
      have hBw := mmore hu0 hB
      have r0 := cell_later hBw r0
      have r1 := cell_later hBw r1
      have SN := Lib.hid (fun (u : Value) => tcells_snoc ts us k _ u hvk hl)
      have TK := Lib.hid hvk
      generalize ts[k] = t0 at *
      obtain ⟨nm, fs⟩ := t0
      obtain ⟨FA, fcap, rfl, hfc⟩ := hF
      simp only at r0 r1 hfc hfb
      replace hfc := Lib.hid hfc
      clear hcell hvk
      go_wp2_with fail
      have kb0 := Blk.made (wo.alloc (.cells #[.string nm, .slice FA fs.length fcap] 51)) 54 #[.string nm, .slice none 0 0]
      have kb : Blk ((wo.alloc (.cells #[.string nm, .slice FA fs.length fcap] 51)).alloc (.cells #[.string nm, .slice none 0 0] 54)) (wo.heap.size + 1) 54 #[.string nm, .slice none 0 0] := by simpa using kb0
      have hwb := m2 wo (.cells #[.string nm, .slice FA fs.length fcap] 51) (.cells #[.string nm, .slice none 0 0] 54)
      have sb : ((wo.alloc (.cells #[.string nm, .slice FA fs.length fcap] 51)).alloc (.cells #[.string nm, .slice none 0 0] 54)).heap.size = wo.heap.size + 1 + 1 := by simp
      clear kb0
      generalize (wo.alloc (.cells #[.string nm, .slice FA fs.length fcap] 51)).alloc (.cells #[.string nm, .slice none 0 0] 54) = wb at *
      replace kb := Lib.hid kb
      replace sb := Lib.hid sb
      go_loopw [22] (fun i wr' => FR wb (wo.heap.size + 1) nm fs i wr') (fun i _ => fs.length - (intOf i).toNat)
      case atStart => exact ⟨0, Nat.zero_le _, rfl, .slice none 0 0, kb.out, World.ownsRow_nil _ _ _ _, World.grownBy.refl _ _⟩
      case round =>
        obtain ⟨j, hj2, rfl, v6, hX, hO, hg⟩ := hrel
        clear kb
        have hBi : Below w.heap.size w wr := (mmore hBw hwb).grown hg (mmore hBw hwb).size (fun g hg => by injection hg with e; have := hBw.size; omega)
        by_cases hj3 : j < fs.length
        · obtain ⟨fb, foff, rfl, hfcell⟩ := hfc.out (by omega)
          have hfj : fs[j]? = some fs[j] := List.getElem?_eq_getElem hj3
          obtain ⟨q0, q1⟩ := hfcell j _ hfj
          have q0 := cell_later hBi q0
          have q1 := cell_later hBi q1
          have SN2 := Lib.hid (fcells_snoc fs j _ hfj)
          generalize fs[j] = f at *
          obtain ⟨fnm, fk⟩ := f
          simp only at q0 q1
          have SN3 : fcells (fs.take (j + 1)) = fcells (fs.take j) ++ [.string fnm, .int .i64 fk] := SN2.out
          replace SN3 := Lib.hid SN3
          have x1 : wr.cell? ⟨wo.heap.size + 1, 1, none⟩ = some v6 := hX.cell 1
          clear SN2 hfcell hfj r0 r1
          have hlt6 : wo.heap.size + 1 < wr.heap.size := hX.lt
          have ne6 : ¬ wo.heap.size + 1 = wr.heap.size := by omega
          have ne7 : ¬ wr.heap.size = wo.heap.size + 1 := by omega
          have hne := hX.own_ne hO (by decide)
          replace hB := Lib.hid hB
          go_wp2_with (at_builtin; refine wpList_append_own _ rfl (.tmp 27) (.tmp 33) 52 rfl wb.heap.size 57 i0 (.agg #[.string ⟨#[]⟩, .int .i64 0]) 2 24 Tryz.underlying52 hi hz0 hz1 hz2 rfl (by decide) v6 j (fcells (fs.take j)) rfl ((hO.alloc _).alloc _) ⟨wr.heap.size + 1, 0, none⟩ 1 1 [.string fnm, .int .i64 fk] rfl rfl ?c1 ?c2 ?c3 ?c4 ?c5 ?_)
          case c2 => exact ⟨rfl, rfl⟩
          case c3 => unfold maxLen; omega
          case c4 => omega
          case c5 => have := hg.size; first | omega | (simp; omega)
          intro v' w3 hO3 hgrow _
          rw [← SN3.out] at hO3
          obtain ⟨gx, capx, rfl, _, _⟩ := hO3.form (by omega)
          have hX3 : Blk w3 (wo.heap.size + 1) 54 #[.string nm, v6] := (hX.kept (m2 _ _ _)).grown hgrow hne
          have y1 : w3.cell? ⟨wo.heap.size + 1, 1, none⟩ = some v6 := hX3.cell 1
          have y2 : w3.frozen? ⟨wo.heap.size + 1, 1, none⟩ = false := hX3.free 1
          have hne3 := hX3.own_ne hO3 (by decide)
          have hX4 : Blk (w3.setCell ⟨wo.heap.size + 1, 1, none⟩ (.slice (some ⟨gx, 0, none⟩) (j + 1) capx)) (wo.heap.size + 1) 54 #[.string nm, (.slice (some ⟨gx, 0, none⟩) (j + 1) capx)] := by simpa using hX3.put_ 1 (.slice (some ⟨gx, 0, none⟩) (j + 1) capx)
          have hO4 := mown_set hO3 (p := ⟨wo.heap.size + 1, 1, none⟩) (fun e => hne3 e.symm) (.slice (some ⟨gx, 0, none⟩) (j + 1) capx)
          have hg3 : wb.grownBy w3 (some (wo.heap.size + 1)) := mgrown (mgrown hg (mgrows (m2 _ _ _) none) (fun _ h => by cases h)) hgrow (fun k hk => .inr ((hO.lt k hk).1))
          have hg4 := mgrown hg3 (mset w3 ⟨wo.heap.size + 1, 1, none⟩ (.slice (some ⟨gx, 0, none⟩) (j + 1) capx)) (fun k hk => .inl (by simpa using hk))
          clear hX hO hgrow hX3 hO3 hg3 hg hne hne3 q0 q1 x1
          go_wp2
          go_roundw
          case rel => exact ⟨j + 1, by omega, by go_num, (.slice (some ⟨gx, 0, none⟩) (j + 1) capx), hX4, hO4, hg4⟩
          case measure => simp [intOf]; omega
        · obtain rfl : j = fs.length := by omega
          rw [List.take_length] at hO
          have sb := sb.out
          have hT2 := (mown_below hT hwb).kept hg (.inr (fun e => by have := (hT.lt _ e).2; omega))
          have hU2 := Lib.hid (fun i t u h h' => (mown_below (hU i t u h h') hwb).kept hg (.inr (fun e => by have := ((hU i t u h h').lt _ e).2; omega)))
          have hG2 : Blk wr u0.heap.size 31 #[v, .slice none 0 0] := (hG.kept hwb).grown hg (by intro e; injection e with e; have := hG.lt; omega)
          have hsu := hB.size
          have hB2 : Below u0.heap.size u0 wr := (mmore hB hwb).grown hg (mmore hB hwb).size (fun g hg => by injection hg with e; omega)
          have hO2 := mown_mono (base' := u0.heap.size) hO (by omega)
          have hs2 := hB2.size
          replace sb := Lib.hid sb
          have x0 : wr.cell? ⟨u0.heap.size, 0, none⟩ = some v := hG2.cell 0
          have xa : wr.cell? ⟨wo.heap.size + 1, 0, none⟩ = some (.string nm) := hX.cell 0
          have xb : wr.cell? ⟨wo.heap.size + 1, 1, none⟩ = some v6 := hX.cell 1
          have one6 := own_one hO
          have hTK := TK.out
          clear hU hT hG hB hg hO hX hBi
          go_wp2_with (at_builtin; refine wpList_append_own _ rfl (.tmp 38) (.tmp 40) 29 rfl u0.heap.size 54 j0 (.agg #[.string ⟨#[]⟩, .slice none 0 0]) 2 40 Tryz.underlying29 hj hy0 hy1 hy2 rfl (by decide) v k (tcells (ts.take k) us) rfl (hT2.alloc _) ⟨wr.heap.size, 0, none⟩ 1 1 [.string nm, v6] rfl rfl ?d1 ?d2 ?d3 ?d4 ?d5 ?_)
          case d1 =>
            intro j u hj
            match j, hj with
            | 0, hj => simp at hj; subst hj; simp [Addr.add]
            | 1, hj => simp at hj; subst hj; simp [Addr.add]
          case d2 =>
            intro u hu
            simp at hu
            rcases hu with rfl | rfl
            · rfl
            · exact one6
          case d3 => unfold maxLen; omega
          case d4 => omega
          case d5 => simp; omega
          intro v' w4 hT4 hgrow _
          rw [← SN.out v6] at hT4
          obtain ⟨gx, capx, rfl, _, _⟩ := hT4.form (by omega)
          have hG4 : Blk w4 u0.heap.size 31 #[v, .slice none 0 0] := (hG2.kept (m1 _ _)).grown hgrow (hG2.own_ne hT2 (by decide))
          have hO4 := (mown_below hO2 (m1 _ _)).kept hgrow (mown_ne hO2 hT2 (by decide))
          have hU4 := Lib.hid (fun i t u h h' => (mown_below (hU2.out i t u h h') (m1 _ _)).kept hgrow (mown_ne (hU2.out i t u h h') hT2 (by decide)))
          have y1 : w4.cell? ⟨u0.heap.size, 0, none⟩ = some v := hG4.cell 0
          have y2 : w4.frozen? ⟨u0.heap.size, 0, none⟩ = false := hG4.free 0
          have hG5 : Blk (w4.setCell ⟨u0.heap.size, 0, none⟩ (.slice (some ⟨gx, 0, none⟩) (k + 1) capx)) u0.heap.size 31 #[.slice (some ⟨gx, 0, none⟩) (k + 1) capx, .slice none 0 0] := by simpa using hG4.put_ 0 (.slice (some ⟨gx, 0, none⟩) (k + 1) capx)
          have hT5 := mown_set hT4 (p := ⟨u0.heap.size, 0, none⟩) (fun e => hG4.own_ne hT4 (by decide) e.symm) (.slice (some ⟨gx, 0, none⟩) (k + 1) capx)
          have hO5 := mown_set hO4 (p := ⟨u0.heap.size, 0, none⟩) (fun e => hG4.own_ne hO4 (by decide) e.symm) (.slice (some ⟨gx, 0, none⟩) (k + 1) capx)
          have hU5 := Lib.hid (fun i t u h h' => mown_set (hU4.out i t u h h') (p := ⟨u0.heap.size, 0, none⟩) (fun e => hG4.own_ne (hU4.out i t u h h') (by decide) e.symm) (.slice (some ⟨gx, 0, none⟩) (k + 1) capx))
          have hB5 := ((hB2.alloc hs2 _).grown hgrow (by simp; omega) (fun g hg => (hT2.lt g hg).1)).setCell (p := ⟨u0.heap.size, 0, none⟩) (Nat.le_refl _) (.slice (some ⟨gx, 0, none⟩) (k + 1) capx)
          have hrows : ∀ (i : Nat) (t : ST) (u : Value), (ts.take (k + 1))[i]? = some t → (us ++ [v6])[i]? = some u → (w4.setCell ⟨u0.heap.size, 0, none⟩ (.slice (some ⟨gx, 0, none⟩) (k + 1) capx)).ownsRow u0.heap.size 57 2 u t.2.length (fcells t.2) := by
            intro i t u h h'
            by_cases c : i < k
            · rw [List.getElem?_take_of_lt (by omega)] at h
              rw [List.getElem?_append_left (by omega)] at h'
              exact hU5.out i t u (by rw [List.getElem?_take_of_lt c]; exact h) h'
            · have hi2 := (List.getElem?_eq_some_iff.1 h').1
              have : i = k := by simp at hi2; omega
              subst this
              rw [List.getElem?_take_of_lt (by omega), TK.out] at h
              rw [List.getElem?_append_right (by omega), hl, Nat.sub_self] at h'
              injection h with h
              simp at h'
              subst h h'
              exact hO5
          replace hrows := Lib.hid hrows
          clear hG2 hT2 hU2 hO2 hG4 hT4 hO4 hU4 hU5 hO5 hgrow x0 xa xb
          go_wp2
          go_roundw
          case rel => exact ⟨k + 1, by omega, by go_num, _, us ++ [v6], by simp [hl], hG5, hT5, hrows.out, hB5⟩
          case measure => simp [intOf]; omega
    · obtain rfl : k = ts.length := by omega
      rw [List.take_length] at hT hU
      replace hU := Lib.hid hU
      obtain ⟨c1, k2⟩ := C1.out
      have c1 := cell_later hB c1
      have k2 := k2.kept hB
      have x1 : wo.cell? ⟨u0.heap.size, 1, none⟩ = some (.slice none 0 0) := hG.cell 1
      have hBw := mmore hu0 hB
      have hbase : w.heap.size ≤ wo.heap.size := hBw.size
      have hR : Reads wo wo.heap.size 1 B ss.length (ss.map Value.string) := by
        refine ⟨by simp, fun hp => ?_⟩
        obtain ⟨sb, soff, rfl, hsc⟩ := hs0.out hp
        refine ⟨_, rfl, ?_, fun j u hu => ?_⟩
        · have h0 : ss[0]? = some ss[0] := List.getElem?_eq_getElem hp
          exact block_of_add' (cell_later hBw (hsc 0 _ h0))
        · rw [List.getElem?_map] at hu
          obtain ⟨s, hs, rfl⟩ := Option.map_eq_some_iff.1 hu
          have := cell_later hBw (hsc j s hs)
          rw [show (⟨sb, soff, none⟩ : Addr).add j = ⟨sb, soff + j, none⟩ by unfold Addr.add; split <;> simp_all]
          exact this
      have hone : ∀ u ∈ ss.map Value.string, u.oneCell' = true := by
        intro u hu
        obtain ⟨s, _, rfl⟩ := List.mem_map.1 hu
        rfl
      go_wp2_with (at_builtin; refine wpList_append_any _ rfl (.tmp 45) (.tmp 47) 23 rfl u0.heap.size 9 k0 (.string ⟨#[]⟩) 1 16 Tryz.underlying23 hk0 hx0 hx1 hx2 rfl (by decide) (.slice none 0 0) 0 [] rfl (World.ownsRow_nil _ _ _ _) wo.heap.size B ss.length capS (ss.map Value.string) rfl hR hone (by unfold maxLen; omega) (by omega) hB.size ?_)
      intro v5 w5 hS hgrow _
      have hgrow' : wo.grownBy w5 none := hgrow
      obtain ⟨A5, c5, rfl⟩ : ∃ A5 c5, v5 = .slice A5 ss.length c5 := by
        rcases hS.2 with ⟨rfl, h⟩ | ⟨g, cap, cur, rfl, _⟩
        · exact ⟨none, 0, by first | rw [h] | (rw [show ss.length = 0 by omega])⟩
        · first | exact ⟨_, _, rfl⟩ | exact ⟨_, _, by rw [Nat.zero_add]⟩
      obtain ⟨A4, c4, rfl⟩ : ∃ A4 c4, v = .slice A4 ts.length c4 := by
        rcases hT.2 with ⟨rfl, h⟩ | ⟨g, cap, cur, rfl, _⟩
        · exact ⟨none, 0, by rw [h]⟩
        · exact ⟨_, _, rfl⟩
      have hG5 := hG.grown hgrow' (by simp)
      have k5 := k2.grown hgrow' (by simp)
      have hT5 := hT.kept hgrow' (Classical.em _)
      have hU5 := Lib.hid (fun i t u h h' => (hU.out i t u h h').kept hgrow' (Classical.em _))
      have hB5 : Below u0.heap.size u0 w5 := hB.grown hgrow' hB.size (fun g hg => by cases hg)
      have hB5' := mmore hu0 hB5
      have e3 := e3.out
      have ne1 : ¬ u0.heap.size = w.heap.size + 1 := by omega
      have ne2 : ¬ w.heap.size + 1 = u0.heap.size := by omega
      have x0 : w5.cell? ⟨u0.heap.size, 0, none⟩ = some (.slice A4 ts.length c4) := hG5.cell 0
      have x1' : w5.cell? ⟨u0.heap.size, 1, none⟩ = some (.slice none 0 0) := hG5.cell 1
      have x2 : w5.frozen? ⟨u0.heap.size, 1, none⟩ = false := hG5.free 1
      have z0 : w5.cell? ⟨w.heap.size + 1, 0, none⟩ = some (.slice none 0 0) := k5.cell 0
      have z1 : w5.cell? ⟨w.heap.size + 1, 1, none⟩ = some (.slice none 0 0) := k5.cell 1
      have z2 : w5.frozen? ⟨w.heap.size + 1, 0, none⟩ = false := k5.free 0
      have z3 : w5.frozen? ⟨w.heap.size + 1, 1, none⟩ = false := k5.free 1
      have hT6 := mown_set hT5 (p := ⟨u0.heap.size, 1, none⟩) (fun e => hG5.own_ne hT5 (by decide) e.symm) (.slice A5 ss.length c5)
      have hS6 := mown_set hS (p := ⟨u0.heap.size, 1, none⟩) (fun e => hG5.own_ne hS (by decide) e.symm) (.slice A5 ss.length c5)
      have hU6 := Lib.hid (fun i t u h h' => mown_set (hU5.out i t u h h') (p := ⟨u0.heap.size, 1, none⟩) (fun e => hG5.own_ne (hU5.out i t u h h') (by decide) e.symm) (.slice A5 ss.length c5))
      have k6 : Blk (w5.setCell ⟨u0.heap.size, 1, none⟩ (.slice A5 ss.length c5)) (w.heap.size + 1) 31 #[.slice none 0 0, .slice none 0 0] := k5.else_ (p := ⟨u0.heap.size, 1, none⟩) ne1 _
      have hT7 := mown_set hT6 (p := ⟨w.heap.size + 1, 0, none⟩) (fun e => k6.own_ne hT6 (by decide) e.symm) (.slice A4 ts.length c4)
      have hS7 := mown_set hS6 (p := ⟨w.heap.size + 1, 0, none⟩) (fun e => k6.own_ne hS6 (by decide) e.symm) (.slice A4 ts.length c4)
      have hU7 := Lib.hid (fun i t u h h' => mown_set (hU6.out i t u h h') (p := ⟨w.heap.size + 1, 0, none⟩) (fun e => k6.own_ne (hU6.out i t u h h') (by decide) e.symm) (.slice A4 ts.length c4))
      have k7 := k6.put_ 0 (.slice A4 ts.length c4)
      have hT8 := mown_set hT7 (p := ⟨w.heap.size + 1, 1, none⟩) (fun e => k7.own_ne hT7 (by decide) e.symm) (.slice A5 ss.length c5)
      have hS8 := mown_set hS7 (p := ⟨w.heap.size + 1, 1, none⟩) (fun e => k7.own_ne hS7 (by decide) e.symm) (.slice A5 ss.length c5)
      have hU8 := Lib.hid (fun i t u h h' => mown_set (hU7.out i t u h h') (p := ⟨w.heap.size + 1, 1, none⟩) (fun e => k7.own_ne (hU7.out i t u h h') (by decide) e.symm) (.slice A5 ss.length c5))
      have hB8 := ((hB5'.setCell (p := ⟨u0.heap.size, 1, none⟩) (by show w.heap.size ≤ u0.heap.size; omega) (.slice A5 ss.length c5)).setCell (p := ⟨w.heap.size + 1, 0, none⟩) (by show w.heap.size ≤ w.heap.size + 1; omega) (.slice A4 ts.length c4)).setCell (p := ⟨w.heap.size + 1, 1, none⟩) (by show w.heap.size ≤ w.heap.size + 1; omega) (.slice A5 ss.length c5)
      have k8 := k7.put_ 1 (.slice A5 ss.length c5)
      have r0 : (((w5.setCell ⟨u0.heap.size, 1, none⟩ (.slice A5 ss.length c5)).setCell ⟨w.heap.size + 1, 0, none⟩ (.slice A4 ts.length c4)).setCell ⟨w.heap.size + 1, 1, none⟩ (.slice A5 ss.length c5)).cell? ⟨w.heap.size + 1, 0, none⟩ = some (.slice A4 ts.length c4) := by rw [k8.cell 0]; rfl
      have r1 : (((w5.setCell ⟨u0.heap.size, 1, none⟩ (.slice A5 ss.length c5)).setCell ⟨w.heap.size + 1, 0, none⟩ (.slice A4 ts.length c4)).setCell ⟨w.heap.size + 1, 1, none⟩ (.slice A5 ss.length c5)).cell? ⟨w.heap.size + 1, 1, none⟩ = some (.slice A5 ss.length c5) := by rw [k8.cell 1]; rfl
      have TT : TypesIn (((w5.setCell ⟨u0.heap.size, 1, none⟩ (.slice A5 ss.length c5)).setCell ⟨w.heap.size + 1, 0, none⟩ (.slice A4 ts.length c4)).setCell ⟨w.heap.size + 1, 1, none⟩ (.slice A5 ss.length c5)) (.slice A4 ts.length c4) ts := own_types hl hT8 hU8.out
      have SS : SymsIn (((w5.setCell ⟨u0.heap.size, 1, none⟩ (.slice A5 ss.length c5)).setCell ⟨w.heap.size + 1, 0, none⟩ (.slice A4 ts.length c4)).setCell ⟨w.heap.size + 1, 1, none⟩ (.slice A5 ss.length c5)) (.slice A5 ss.length c5) ss := own_syms (by simpa using hS8)
      replace TT := Lib.hid TT
      replace SS := Lib.hid SS
      replace hB8 := Lib.hid hB8
      replace r0 := Lib.hid r0
      replace r1 := Lib.hid r1
      replace e3 := Lib.hid e3
      clear hG hT hR hone hG5 k2 k5 hT5 hB5 hB5' hT6 hS6 k6 hT7 hS7 k7 hT8 hS8 k8 hS hgrow hgrow' hB hBw hbase x1 c1 hu0
      go_wp2
      exact bodyPost_ret (v := .agg #[.slice A4 ts.length c4, .slice A5 ss.length c5]) (by simp [results, Tryz.results6, go_sem, r0.out, r1.out]) rfl ⟨_, _, rfl, TT.out, SS.out, hB8.out⟩
end Go.Proofs.YtkmlbifhpkfinaaGreatDoor
