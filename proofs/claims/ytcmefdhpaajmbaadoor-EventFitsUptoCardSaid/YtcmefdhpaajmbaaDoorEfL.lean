/- By any kinds: the law's own schema of them, and what it asks: as a walk. -/
import Derived.Test.YtcmefdhpaajmbaaDoorEfP
import Derived.Test.YtcmefdhpaajmbaaDoorEvA
import Derived.Test.YtcmefdhpaajmbaaDoorEvR
import Derived.Test.YtcmefdhpaajmbaaDoorEvO
namespace Go.Proofs.YtcmefdhpaajmbaaDoor
open Go.ChangeShapes Go.WideShapes Go.ChangeAt Go.RowKit Go.Fl
set_option linter.unusedVariables false
set_option linter.unusedSimpArgs false

theorem infoFieldR : (Tryd.prog.info? 36).map (fun i => (i.zero, i.size, i.bytes)) = some (some (.agg #[.string ⟨#[]⟩, .int .i64 0]), 2, 24) := by kernel_rfl
theorem infoTypeR : (Tryd.prog.info? 34).map (fun i => (i.zero, i.size, i.bytes)) = some (some (.agg #[.string ⟨#[]⟩, .slice none 0 0]), 2, 40) := by kernel_rfl
theorem rdec_nat (i : Nat) (hi : i ≤ 9223372036854775807) (w : World) : Calls Tryd.prog 4 #[.int .i64 (i : Int)] w fun e w' => e = .returned (.string ⟨(Lib.decDigits i).toArray⟩) ∧ Below w.heap.size w w' := by
  have := rdecimal_any (i : Int) w (by omega) (by omega)
  rw [Lib.itoa_nonneg] at this
  exact this
theorem nm_text (c : UInt8) (i : Nat) : (⟨#[c]⟩ : ByteArray) ++ ⟨(Lib.decDigits i).toArray⟩ = nmB c i := by
  apply ByteArray.ext
  apply Array.ext'
  simp [nmB, ByteArray.toList_data_append]
theorem dd_size (i : Nat) (h : i ≤ 9223372036854775807) : (⟨(Lib.decDigits i).toArray⟩ : ByteArray).size ≤ 20 := by
  show (Lib.decDigits i).toArray.size ≤ 20
  rw [List.size_toArray]
  exact dd_len20 (by omega)
theorem news_tw (w : World) (t : TypeId) (x y : Value) : ∀ (j : Nat) (u : Value), [x, y][j]? = some u → (w.alloc (.cells #[x, y] t)).cell? ((⟨w.heap.size, 0, none⟩ : Addr).add j) = some u := news_two w t x y
theorem one_tw (a : ByteArray) (b : Int) : ∀ u ∈ [Value.string a, Value.int .i64 b], u.oneCell' = true := by
  intro u hu; simp at hu; rcases hu with rfl | rfl <;> rfl

def EfT (u0 : World) (ts : List ST) (i : Value) (wr : World) : Prop :=
  ∃ k : Nat, k ≤ ts.length ∧ i = .int .i64 (k : Int) ∧ ∃ (v : Value) (us : List Value), us.length = k ∧ Blk wr u0.heap.size 29 #[v, .slice none 0 0] ∧ wr.ownsRow u0.heap.size 34 2 v k (tcells (ts.take k) us) ∧
    (∀ (i : Nat) (t : ST) (u : Value), (ts.take k)[i]? = some t → us[i]? = some u → wr.ownsRow u0.heap.size 36 2 u t.2.length (fcells t.2)) ∧ Below u0.heap.size u0 wr
def EfF (wb : World) (g6 : Nat) (nm : ByteArray) (fs : List SF) (i : Value) (wr : World) : Prop :=
  ∃ j : Nat, j ≤ fs.length ∧ i = .int .i64 (j : Int) ∧ ∃ v6 : Value, Blk wr g6 34 #[.string nm, v6] ∧ wr.ownsRow wb.heap.size 36 2 v6 j (fcells (fs.take j)) ∧ wb.grownBy wr (some g6)
def EfS (u0 : World) (kss : List (List Int)) (v : Value) (us : List Value) (m : Int) (i : Value) (wr : World) : Prop :=
  ∃ (n : Nat) (v2 : Value), n ≤ symN m ∧ i = .int .i64 (n : Int) ∧ Blk wr u0.heap.size 29 #[v, v2] ∧ wr.ownsRow u0.heap.size 34 2 v (typsOf kss).length (tcells (typsOf kss) us) ∧
    (∀ (i : Nat) (t : ST) (u : Value), (typsOf kss)[i]? = some t → us[i]? = some u → wr.ownsRow u0.heap.size 36 2 u t.2.length (fcells t.2)) ∧ wr.ownsRow u0.heap.size 9 1 v2 n ((symsMade n).map Value.string) ∧ Below u0.heap.size u0 wr
theorem syms_snoc (n : Nat) : (symsMade (n + 1)).map Value.string = (symsMade n).map Value.string ++ [.string (nmB 115 n)] := by
  unfold symsMade
  rw [List.range_succ]
  simp
theorem news_1 (w : World) (t : TypeId) (x : Value) : ∀ (j : Nat) (u : Value), [x][j]? = some u → (w.alloc (.cells #[x] t)).cell? ((⟨w.heap.size, 0, none⟩ : Addr).add j) = some u := by
  intro j u hj
  match j, hj with
  | 0, hj => simp at hj; subst hj; simp [Addr.add]
theorem one_1 (a : ByteArray) : ∀ u ∈ [Value.string a], u.oneCell' = true := by
  intro u hu; simp at hu; subst hu; rfl

set_option maxHeartbeats 8000000 in
set_option maxRecDepth 100000 in
theorem efits_any (A : Option Addr) (cap : Nat) (kss : List (List Int)) (m ty tm : Int) (B : Option Addr) (capB : Nat) (vs : List (Int × Nat)) (w : World) (htab : Lib.TabIs Tryd.prog w "internal/strconv.uint64pow10" .u64 Lib.pow10Tab)
    (hK : KindsAt w A kss) (hv : RowV w B vs.length vs) (hm0 : -9223372036854775808 ≤ m) (hm1 : m ≤ 9223372036854775807) (hn : kss.length ≤ 1048576) (hn2 : ∀ ks ∈ kss, ks.length ≤ 1048576) (hvl : vs.length * 16 ≤ 140737488351232) :
    Calls Tryd.prog 3 #[.slice A kss.length cap, .int .i64 m, .agg #[.int .i64 ty, .int .i64 tm, .slice B vs.length capB]] w fun e w' => e = .returned (.bool true) ∧ Below w.heap.size w w' := by
  obtain ⟨i0, hi, hz0, hz1, hz2⟩ := info_parts infoFieldR
  obtain ⟨j0, hj, hy0, hy1, hy2⟩ := info_parts infoTypeR
  obtain ⟨k0, hk0, hx0, hx1, hx2⟩ := info_parts infoText
  have hu := m1 w (.cells #[.int .i64 ty, .int .i64 tm, .slice B vs.length capB] 25)
  have hE := Blk.made w 25 #[.int .i64 ty, .int .i64 tm, .slice B vs.length capB]
  have hKu := Lib.hid (hK.later hu)
  have hvu := Lib.hid (hv.later hu)
  have tab := Lib.hid (Lib.tabBelow_of_tabIs htab)
  have hTL := typs_len kss
  have hTA : ∀ (i : Nat) (ks : List Int), kss[i]? = some ks → (typsOf kss)[i]? = some (nmB 84 i, fldsOf ks) := fun i ks h => by unfold typsOf; rw [List.getElem?_mapIdx, h]; rfl
  replace hTA := Lib.hid hTA
  replace hn2 := Lib.hid hn2
  have e3 : (w.alloc (.cells #[.int .i64 ty, .int .i64 tm, .slice B vs.length capB] 25)).heap.size = w.heap.size + 1 := by simp
  clear hK hv htab
  go_enter Tryd.func3, Tryd.ntmps3
  go_wp2_with fail
  rw [← e3]
  generalize w.alloc (.cells #[.int .i64 ty, .int .i64 tm, .slice B vs.length capB] 25) = u0 at *
  replace e3 := Lib.hid e3
  have k3 := Blk.made u0 29 #[.slice none 0 0, .slice none 0 0]
  replace hE := Lib.hid hE
  go_loopw [17] (fun i wr => EfT u0 (typsOf kss) i wr) (fun i _ => kss.length - (intOf i).toNat)
  case atStart => exact ⟨0, Nat.zero_le _, rfl, .slice none 0 0, [], rfl, k3, World.ownsRow_nil _ _ _ _, fun i t u h => by simp at h, m1 _ _⟩
  case round =>
    obtain ⟨k, hk, rfl, v, us, hl, hG, hT, hU, hB⟩ := hrel
    clear k3
    obtain ⟨wo, rfl⟩ : ∃ wo : World, wo = wr := ⟨_, rfl⟩
    rw [hTL] at hk
    have k00 : (0 : Int) ≤ (k : Int) := by omega
    by_cases hlt : k < kss.length
    · have k11 : (k : Int) < (kss.length : Int) := by omega
      obtain ⟨b, off, rfl, hcell⟩ := hKu.out (by omega)
      have hvk : kss[k]? = some kss[k] := List.getElem?_eq_getElem hlt
      obtain ⟨uf, r0, FA, fcap, rfl, hF⟩ := hcell k _ hvk
      have hfb := hn2.out _ (List.getElem_mem hlt)
      have r0 := cell_later hB r0
      have hTk := hTA.out k _ hvk
      have SN := Lib.hid (fun (u : Value) => tcells_snoc (typsOf kss) us k _ u hTk hl)
      have TK := Lib.hid hTk
      generalize kss[k] = ks at *
      replace hF := Lib.hid hF
      have DX := rdec_nat k (by omega)
      have hzx := dd_size k (by omega)
      have hnm := nm_text 84 k
      generalize (⟨(Lib.decDigits k).toArray⟩ : ByteArray) = TX at *
      generalize nmB 84 k = nm at *
      have lq1 : ¬ 9223372036854775807 < 1 + TX.size := by omega
      replace DX := Lib.hid DX
      clear hcell hvk hTk
      go_wp2_with (go_at_call 4; refine (DX.out _).mono ?_; rintro e w2 ⟨rfl, hb2⟩)
      have hbw2 := mmore hB hb2
      have r0 := cell_later hb2 r0
      have hwb := m1 w2 (.cells #[.string nm, .slice none 0 0] 34)
      have kb := Lib.hid (Blk.made w2 34 #[.string nm, .slice none 0 0])
      have sb := Lib.hid (show (w2.alloc (.cells #[.string nm, .slice none 0 0] 34)).heap.size = w2.heap.size + 1 by simp)
      have hs2 := hb2.size
      generalize hg6 : w2.heap.size = g6 at *
      generalize w2.alloc (.cells #[.string nm, .slice none 0 0] 34) = wb at *
      have hFL := flds_len ks
      have hFA : ∀ (i : Nat) (x : Int), ks[i]? = some x → (fldsOf ks)[i]? = some (nmB 102 i, x) := fun i x h => by unfold fldsOf; rw [List.getElem?_mapIdx, h]; rfl
      replace hFA := Lib.hid hFA
      replace hg6 := Lib.hid hg6
      go_loopw [28] (fun i wr' => EfF wb g6 nm (fldsOf ks) i wr') (fun i _ => ks.length - (intOf i).toNat)
      case atStart => exact ⟨0, Nat.zero_le _, rfl, .slice none 0 0, kb.out, World.ownsRow_nil _ _ _ _, World.grownBy.refl _ _⟩
      case round =>
        obtain ⟨j, hj2, rfl, v6, hX, hO, hg⟩ := hrel
        clear kb
        have hsb := sb.out
        rw [hFL] at hj2
        have hBi : Below u0.heap.size u0 wr := (mmore hbw2 (hg6.out ▸ hwb)).grown hg (mmore hbw2 (hg6.out ▸ hwb)).size (fun g hg => by injection hg with e; have := hbw2.size; have := hg6.out; omega)
        by_cases hj3 : j < ks.length
        · obtain ⟨fb, foff, rfl, hfc⟩ := hF.out (by omega)
          have hfj : ks[j]? = some ks[j] := List.getElem?_eq_getElem hj3
          have q0 := cell_later hBi (hfc j _ hfj)
          have SN2 := fcells_snoc (fldsOf ks) j _ (hFA.out j _ hfj)
          simp only at SN2
          generalize ks[j] = fk at *
          have DX2 := rdec_nat j (by omega)
          have hzx2 := dd_size j (by omega)
          have hnm2 := nm_text 102 j
          generalize (⟨(Lib.decDigits j).toArray⟩ : ByteArray) = TX2 at *
          generalize nmB 102 j = fnm at *
          have lq2 : ¬ 9223372036854775807 < 1 + TX2.size := by omega
          replace DX2 := Lib.hid DX2
          replace SN2 := Lib.hid SN2
          have j00 : (0 : Int) ≤ (j : Int) := by omega
          have j11 : (j : Int) < (ks.length : Int) := by omega
          clear hfc hfj
          go_upto_region 9 with (fail)
          have hXz : Blk wr.drew g6 34 #[.string nm, v6] := hX
          have hOz : wr.drew.ownsRow wb.heap.size 36 2 v6 j (fcells ((fldsOf ks).take j)) := hO
          have hgz : wb.grownBy wr.drew (some g6) := mgrown hg (mgrows ((Below.refl _ wr).drew) none) (fun _ h => by cases h)
          have x1 : wr.cell? ⟨g6, 1, none⟩ = some v6 := hX.cell 1
          have n3 : j + 1 ≤ maxLen := by unfold maxLen; omega
          have n4 : (j + 1) * 24 ≤ 140737488355328 := by omega
          clear q0 r0
          go_region_law (first | (go_simp; go_at_call 4; refine (DX2.out _).mono ?_; rintro e w4 ⟨rfl, hb4⟩; have hO2 := mown_below hOz hb4; have hX2 := hXz.kept hb4; have hg2 := mgrown hgz (mgrows hb4 none) (fun _ h => by cases h); have x2' : w4.cell? ⟨g6, 1, none⟩ = some v6 := hX2.cell 1; have x3 : ∀ o : Obj, (w4.alloc o).cell? ⟨g6, 1, none⟩ = some v6 := fun o => cell_later (m1 w4 o) x2') | (refine step_append_own rfl (.tmp 34) (.tmp 40) 32 rfl wb.heap.size 36 i0 (.agg #[.string ⟨#[]⟩, .int .i64 0]) 2 24 Tryd.underlying32 hi hz0 hz1 hz2 rfl (by decide) v6 j (fcells ((fldsOf ks).take j)) rfl (hO2.alloc _) ⟨w4.heap.size, 0, none⟩ 1 1 [.string fnm, .int .i64 fk] rfl rfl (news_tw _ _ _ _) (one_tw _ _) n3 n4 (Nat.le_trans hg2.size (by simp)) ?_; intro v' w5 hO3 hgrow; obtain ⟨gx, capx, rfl, _, _⟩ := hO3.form (by omega); have hX3 := (hX2.kept (m1 _ _)).grown hgrow (hX2.own_ne hO2 (by decide)); have hg3 := mgrown (mgrown hg2 (mgrows (m1 w4 _) none) (fun _ h => by cases h)) hgrow (fun k hk => .inr ((hO2.lt k hk).1)); have y2 := hX3.cell 1; have y3 := hX3.free 1))
          all_goals have SN4 : fcells ((fldsOf ks).take (j + 1)) = fcells ((fldsOf ks).take j) ++ [.string fnm, .int .i64 fk] := SN2.out
          all_goals rw [← SN4] at hO3
          all_goals have hX4 : Blk (w5.setCell ⟨g6, 1, none⟩ (.slice (some ⟨gx, 0, none⟩) (j + 1) capx)) g6 34 #[.string nm, (.slice (some ⟨gx, 0, none⟩) (j + 1) capx)] := by simpa using hX3.put_ 1 (.slice (some ⟨gx, 0, none⟩) (j + 1) capx)
          all_goals have hO4 := mown_set hO3 (p := ⟨g6, 1, none⟩) (fun e => hX3.own_ne hO3 (by decide) e.symm) (.slice (some ⟨gx, 0, none⟩) (j + 1) capx)
          all_goals have hg4 := mgrown hg3 (mset w5 ⟨g6, 1, none⟩ (.slice (some ⟨gx, 0, none⟩) (j + 1) capx)) (fun k hk => .inl (by simpa using hk))
          all_goals clear SN4 hO3 hX3 hg3 hgrow hO2 hX2 hg2 x3 x2' y2 y3 hOz hXz hgz x1 hX hO hg hBi hsb
          all_goals generalize w5.setCell ⟨g6, 1, none⟩ (.slice (some ⟨gx, 0, none⟩) (j + 1) capx) = w6 at *
          all_goals go_wp2
          all_goals go_roundw
          all_goals first | exact ⟨j + 1, by omega, by go_num, _, hX4, hO4, hg4⟩ | (simp [intOf]; omega)
        · obtain rfl : j = ks.length := by omega
          have hTk' : (fldsOf ks).take ks.length = fldsOf ks := List.take_of_length_le (by omega)
          rw [hTk'] at hO
          have sb := sb.out
          have hg6o := hg6.out
          have hgt : wo.heap.size ≤ g6 := by omega
          have hTw := mown_below (mown_below hT hb2) (hg6o ▸ hwb)
          have hT2 := hTw.kept hg (.inr (fun e => by have := (hT.lt _ e).2; omega))
          have hU2 := Lib.hid (fun i t u h h' => (mown_below (mown_below (hU i t u h h') hb2) (hg6o ▸ hwb)).kept hg (.inr (fun e => by have := ((hU i t u h h').lt _ e).2; omega)))
          have hG2 : Blk wr u0.heap.size 29 #[v, .slice none 0 0] := ((hG.kept hb2).kept (hg6o ▸ hwb)).grown hg (by intro e; injection e with e; have := hG.lt; omega)
          have hsu := hB.size
          have hO2 := mown_mono (base' := u0.heap.size) hO (by omega)
          have hs2' := hBi.size
          have x0 : wr.cell? ⟨u0.heap.size, 0, none⟩ = some v := hG2.cell 0
          have xa : wr.cell? ⟨g6, 0, none⟩ = some (.string nm) := hX.cell 0
          have xb : wr.cell? ⟨g6, 1, none⟩ = some v6 := hX.cell 1
          have one6 := own_one hO
          have j11 : ¬ (ks.length : Int) < (ks.length : Int) := by omega
          replace hg6o := Lib.hid hg6o
          clear hU hT hG hB hg hO hX hTw hwb hb2 hbw2 r0
          go_wp2_with (at_builtin; refine wpList_append_own _ rfl (.tmp 45) (.tmp 47) 26 rfl u0.heap.size 34 j0 (.agg #[.string ⟨#[]⟩, .slice none 0 0]) 2 40 Tryd.underlying26 hj hy0 hy1 hy2 rfl (by decide) v k (tcells ((typsOf kss).take k) us) rfl (hT2.alloc _) ⟨wr.heap.size, 0, none⟩ 1 1 [.string nm, v6] rfl rfl ?d1 ?d2 ?d3 ?d4 ?d5 ?_)
          case d2 => rfl
          case d3 => first | omega | (unfold maxLen; omega)
          case d4 => omega
          case d5 => first | omega | (simp; omega)
          intro v' w4 hT4 hgrow _
          have SNo : tcells ((typsOf kss).take (k + 1)) (us ++ [v6]) = tcells ((typsOf kss).take k) us ++ [.string nm, v6] := SN.out v6
          rw [← SNo] at hT4
          obtain ⟨gx, capx, rfl, _, _⟩ := hT4.form (by omega)
          have hG4 : Blk w4 u0.heap.size 29 #[v, .slice none 0 0] := (hG2.kept (m1 _ _)).grown hgrow (hG2.own_ne hT2 (by decide))
          have hO4 := (mown_below hO2 (m1 _ _)).kept hgrow (mown_ne hO2 hT2 (by decide))
          have hU4 := Lib.hid (fun i t u h h' => (mown_below (hU2.out i t u h h') (m1 _ _)).kept hgrow (mown_ne (hU2.out i t u h h') hT2 (by decide)))
          have y1 : w4.cell? ⟨u0.heap.size, 0, none⟩ = some v := hG4.cell 0
          have y2 : w4.frozen? ⟨u0.heap.size, 0, none⟩ = false := hG4.free 0
          have hG5 : Blk (w4.setCell ⟨u0.heap.size, 0, none⟩ (.slice (some ⟨gx, 0, none⟩) (k + 1) capx)) u0.heap.size 29 #[.slice (some ⟨gx, 0, none⟩) (k + 1) capx, .slice none 0 0] := by simpa using hG4.put_ 0 (.slice (some ⟨gx, 0, none⟩) (k + 1) capx)
          have hT5 := mown_set hT4 (p := ⟨u0.heap.size, 0, none⟩) (fun e => hG4.own_ne hT4 (by decide) e.symm) (.slice (some ⟨gx, 0, none⟩) (k + 1) capx)
          have hO5 := mown_set hO4 (p := ⟨u0.heap.size, 0, none⟩) (fun e => hG4.own_ne hO4 (by decide) e.symm) (.slice (some ⟨gx, 0, none⟩) (k + 1) capx)
          have hU5 := Lib.hid (fun i t u h h' => mown_set (hU4.out i t u h h') (p := ⟨u0.heap.size, 0, none⟩) (fun e => hG4.own_ne (hU4.out i t u h h') (by decide) e.symm) (.slice (some ⟨gx, 0, none⟩) (k + 1) capx))
          have hB5 := ((hBi.alloc hs2' _).grown hgrow (by simp; omega) (fun g hg => (hT2.lt g hg).1)).setCell (p := ⟨u0.heap.size, 0, none⟩) (Nat.le_refl _) (.slice (some ⟨gx, 0, none⟩) (k + 1) capx)
          have hrows : ∀ (i : Nat) (t : ST) (u : Value), ((typsOf kss).take (k + 1))[i]? = some t → (us ++ [v6])[i]? = some u → (w4.setCell ⟨u0.heap.size, 0, none⟩ (.slice (some ⟨gx, 0, none⟩) (k + 1) capx)).ownsRow u0.heap.size 36 2 u t.2.length (fcells t.2) := by
            intro i t u h h'
            by_cases c : i < k
            · rw [List.getElem?_take_of_lt (by omega)] at h
              rw [List.getElem?_append_left (by omega)] at h'
              exact hU5.out i t u (by rw [List.getElem?_take_of_lt c]; exact h) h'
            · have hi2 := (List.getElem?_eq_some_iff.1 h').1
              have : i = k := by simp at hi2; omega
              subst this
              rw [List.getElem?_take_of_lt (by omega), TK.out] at h
              rw [List.getElem?_append_right (by omega), hl, Nat.sub_self] at h'
              injection h with h
              simp at h'
              subst h h'
              simp only [flds_len]
              exact hO5
          replace hrows := Lib.hid hrows
          clear hG2 hT2 hU2 hO2 hG4 hT4 hO4 hU4 hU5 hO5 hgrow x0 xa xb
          go_wp2
          go_roundw
          case rel => exact ⟨k + 1, by omega, by go_num, _, us ++ [v6], by simp [hl], hG5, hT5, hrows.out, hB5⟩
          case measure => simp [intOf]; omega
    · obtain rfl : k = kss.length := by omega
      have hTl : (typsOf kss).take kss.length = typsOf kss := List.take_of_length_le (by omega)
      rw [hTl] at hT hU
      rw [← hTL] at hT
      replace hU := Lib.hid hU
      have k11 : ¬ (kss.length : Int) < (kss.length : Int) := by omega
      clear hTl
      go_wp2_with fail
      go_loopw [13] (fun i wr => EfS u0 kss v us m i wr) (fun i _ => 65 - (intOf i).toNat)
      case atStart => exact ⟨0, .slice none 0 0, Nat.zero_le _, rfl, hG, hT, hU.out, World.ownsRow_nil _ _ _ _, hB⟩
      case round =>
        obtain ⟨n, v2, hns, rfl, hG2, hT2, hU2, hS2, hB2⟩ := hrel
        clear hG hT hU hB
        replace hU2 := Lib.hid hU2
        by_cases hmore : (n : Int) < m ∧ (n : Int) < 65
        · obtain ⟨c1, c2⟩ := hmore
          have hns2 : n + 1 ≤ symN m := by unfold symN; split <;> omega
          have DX3 := rdec_nat n (by omega)
          have hzx3 := dd_size n (by omega)
          have hnm3 := nm_text 115 n
          have SN3 := syms_snoc n
          generalize (⟨(Lib.decDigits n).toArray⟩ : ByteArray) = TX3 at *
          generalize nmB 115 n = snm at *
          have lq3 : ¬ 9223372036854775807 < 1 + TX3.size := by omega
          replace DX3 := Lib.hid DX3
          replace SN3 := Lib.hid SN3
          replace hns := Lib.hid hns
          replace hns2 := Lib.hid hns2
          go_upto_region 16 with (fail)
          have hGz : Blk wr.drew u0.heap.size 29 #[v, v2] := hG2
          have hSz : wr.drew.ownsRow u0.heap.size 9 1 v2 n ((symsMade n).map Value.string) := hS2
          have hBz : Below u0.heap.size u0 wr.drew := hB2.drew
          have x1 : wr.cell? ⟨u0.heap.size, 1, none⟩ = some v2 := hG2.cell 1
          have n3 : n + 1 ≤ maxLen := by unfold maxLen; omega
          have n4 : (n + 1) * 16 ≤ 140737488355328 := by omega
          go_region_law (first | (go_simp; go_at_call 4; refine (DX3.out _).mono ?_; rintro e w4 ⟨rfl, hb4⟩; have hS3 := mown_below hSz hb4; have hG3 := hGz.kept hb4; have hB3 := mmore hBz hb4; have x2' : w4.cell? ⟨u0.heap.size, 1, none⟩ = some v2 := hG3.cell 1; have x3 : ∀ o : Obj, (w4.alloc o).cell? ⟨u0.heap.size, 1, none⟩ = some v2 := fun o => cell_later (m1 w4 o) x2') | (refine step_append_own rfl (.tmp 61) (.tmp 65) 27 rfl u0.heap.size 9 k0 (.string ⟨#[]⟩) 1 16 Tryd.underlying27 hk0 hx0 hx1 hx2 rfl (by decide) v2 n ((symsMade n).map Value.string) rfl (hS3.alloc _) ⟨w4.heap.size, 0, none⟩ 1 1 [.string snm] rfl rfl (news_1 _ _ _) (one_1 _) n3 n4 (Nat.le_trans hB3.size (by simp)) ?_; intro v' w5 hS4 hgrow; obtain ⟨gx, capx, rfl, _, _⟩ := hS4.form (by omega); have hG4 := (hG3.kept (m1 _ _)).grown hgrow (hG3.own_ne hS3 (by decide)); have hB4 := (hB3.alloc hB3.size _).grown hgrow (Nat.le_trans hB3.size (by simp)) (fun g hg => (hS3.lt g hg).1); have y2 := hG4.cell 1; have y3 := hG4.free 1; have hT4 := (mown_below (mown_below hT2 ((Below.refl _ wr).drew)) hb4); have hU4 := Lib.hid (fun i t u h h' => mown_below (mown_below (hU2.out i t u h h') ((Below.refl _ wr).drew)) hb4)))
          all_goals have hT5 := (mown_below hT4 (m1 _ _)).kept hgrow (mown_ne hT4 hS3 (by decide))
          all_goals have hU5 := Lib.hid (fun i t u h h' => (mown_below (hU4.out i t u h h') (m1 _ _)).kept hgrow (mown_ne (hU4.out i t u h h') hS3 (by decide)))
          all_goals have hG5 : Blk (w5.setCell ⟨u0.heap.size, 1, none⟩ (.slice (some ⟨gx, 0, none⟩) (n + 1) capx)) u0.heap.size 29 #[v, .slice (some ⟨gx, 0, none⟩) (n + 1) capx] := by simpa using hG4.put_ 1 (.slice (some ⟨gx, 0, none⟩) (n + 1) capx)
          all_goals have hT6 := mown_set hT5 (p := ⟨u0.heap.size, 1, none⟩) (fun e => hG4.own_ne hT5 (by decide) e.symm) (.slice (some ⟨gx, 0, none⟩) (n + 1) capx)
          all_goals have hU6 := Lib.hid (fun i t u h h' => mown_set (hU5.out i t u h h') (p := ⟨u0.heap.size, 1, none⟩) (fun e => hG4.own_ne (hU5.out i t u h h') (by decide) e.symm) (.slice (some ⟨gx, 0, none⟩) (n + 1) capx))
          all_goals have hS6 := mown_set hS4 (p := ⟨u0.heap.size, 1, none⟩) (fun e => hG4.own_ne hS4 (by decide) e.symm) (.slice (some ⟨gx, 0, none⟩) (n + 1) capx)
          all_goals have hB6 := hB4.setCell (p := ⟨u0.heap.size, 1, none⟩) (Nat.le_refl _) (.slice (some ⟨gx, 0, none⟩) (n + 1) capx)
          all_goals rw [← SN3.out] at hS6
          all_goals clear hT5 hU5 hG4 hS4 hB4 hT4 hU4 hgrow hS3 hG3 hB3 x3 x2' y2 y3 hGz hSz hBz x1 hG2 hT2 hU2 hS2 hB2
          all_goals generalize w5.setCell ⟨u0.heap.size, 1, none⟩ (.slice (some ⟨gx, 0, none⟩) (n + 1) capx) = w6 at *
          all_goals go_wp2
          all_goals go_roundw
          all_goals first | exact ⟨n + 1, _, hns2.out, by go_num, hG5, hT6, hU6.out, hS6, hB6⟩ | (simp [intOf]; omega)
        · have hne : n = symN m := by unfold symN at hns ⊢; split at hns <;> rename_i hc <;> simp only [hc, if_true, if_false] <;> omega
          replace hns := Lib.hid hns
          have hstop : ¬ (n : Int) < m ∨ ((n : Int) < m ∧ ¬ (n : Int) < 65) := by omega
          have hFV := fits_valid kss m ty tm vs
          subst hne
          generalize symN m = n at *
          have hTT : TypesIn wr v (typsOf kss) := own_types (by rw [hl, hTL]) hT2 hU2.out
          have hSS : SymsIn wr v2 (symsMade n) := own_syms (by rw [syms_len]; exact hS2)
          obtain ⟨A4, c4, rfl, hTA4⟩ := hTT
          obtain ⟨C4, cC4, rfl, ⟨hsc1, hsc2⟩, hSA4⟩ := hSS
          have hTA4 : TypesAt wr A4 (typsOf kss) := hTA4
          have hSA4 : SymsAt wr C4 (symsMade n) := hSA4
          have hBw := mmore hu hB2
          have hEr := hE.out.kept hB2
          have hKr := hKu.out.later hB2
          have hvr := hvu.out.later hB2
          have b1 : (typsOf kss).length * 40 ≤ 140737488351232 := by omega
          have b2 : ∀ t ∈ typsOf kss, t.2.length * 24 ≤ 140737488351232 := fun t ht => by
            obtain ⟨i, hi, rfl⟩ := List.getElem_of_mem ht
            have hik : i < kss.length := by omega
            have h1 := hTA.out i _ (List.getElem?_eq_getElem hik)
            rw [List.getElem?_eq_getElem hi] at h1
            have h2 := hn2.out _ (List.getElem_mem hik)
            rw [Option.some.inj h1]
            simp only [flds_len]
            omega
          have hl2 : ∀ ks ∈ kss, ks.length ≤ 9223372036854775807 := fun ks h => by have := hn2.out ks h; omega
          have hvl9 : vs.length ≤ 9223372036854775807 := by omega
          have hkl9 : kss.length ≤ 9223372036854775807 := by omega
          have FIT := Lib.hid (fun (w6 : World) (B6 : Option Addr) (c6 : Nat) (h1 : KindsAt w6 A kss) (h2 : RowV w6 B6 vs.length vs) => fits_any A B6 cap c6 kss m ty tm vs w6 h1 h2 hvl9 hkl9 hl2)
          have EVT := Lib.hid (fun (w5 : World) (h1 : RowV w5 B vs.length vs) => evto_any B capB ty tm vs w5 h1 hvl)
          have VAL := Lib.hid (fun (w7 : World) (h1 : TypesAt w7 A4 (typsOf kss)) (h2 : SymsAt w7 C4 (symsMade n)) (h3 : RowV w7 B vs.length vs) => rvalid_any A4 C4 B c4 cC4 capB (typsOf kss) (symsMade n) ty tm vs w7 h1 h2 h3 b1 b2 hsc1 hsc2 hvl9)
          rw [hTL, syms_len] at VAL
          rw [hTL] at hG2
          rw [syms_len] at hG2
          generalize typsOf kss = TS at *
          generalize symsMade n = SS at *
          replace hTL := Lib.hid hTL
          replace hFV := Lib.hid hFV
          clear hT2 hU2 hS2 hns hmore hE hKu hvu hTA hn2 b1 b2 hl2 hsc1 hsc2 hl hi hz0 hz1 hz2 hj hy0 hy1 hy2 hk0 hx0 hx1 hx2
          rcases hstop with s1 | ⟨s1, s2⟩
          all_goals (
            go_wp2_with fail
            refine (evawake_any wr (tab.out _ hBw)).mono ?_; rintro e w5 ⟨rfl, hb5⟩
            have hB5 := mmore hBw hb5
            have hE5 := hEr.kept hb5
            have hG5 := hG2.kept hb5
            have e0 := hE5.cell 0
            have e1 := hE5.cell 1
            have e2 := hE5.cell 2
            go_wp2_with fail
            refine (EVT.out w5 (hvr.later hb5)).mono ?_; rintro e w6 ⟨B6, c6, rfl, hv6, hb6⟩
            have hB6 := mmore hB5 hb6
            have hE6 := hE5.kept hb6
            have hG6 := hG5.kept hb6
            clear e0 e1 e2
            go_wp2_with fail
            have hK6 := (hKr.later hb5).later hb6
            refine (FIT.out w6 B6 c6 hK6 hv6).mono ?_; rintro e w7 ⟨q1, rfl, hq1, hb7⟩
            have hB7 := mmore hB6 hb7
            have hE7 := hE6.kept hb7
            have hG7 := hG6.kept hb7
            have e0 := hE7.cell 0
            have e1 := hE7.cell 1
            have e2 := hE7.cell 2
            have f0 := hG7.cell 0
            have f1 := hG7.cell 1
            have hv7 := ((hvr.later hb5).later hb6).later hb7
            have hT7 := ((hTA4.later hb5).later hb6).later hb7
            have hS7 := ((hSA4.later hb5).later hb6).later hb7
            replace hq1 := Lib.hid hq1
            by_cases m0 : 0 ≤ m
            · have m1' : m ≥ 0 := m0
              clear hE5 hG5 hE6 hG6 hE7 hG7 hB5 hB6
              go_wp2_with fail
              refine (VAL.out w7 hT7 hS7 hv7).mono ?_; rintro e w8 ⟨q2, rfl, hq2, hb8⟩
              have hB8 := mmore hB7 hb8
              obtain rfl : q1 = q2 := by
                have h1 := hq1.out
                have h2 := hFV.out
                cases q1 <;> cases q2 <;> simp_all
              clear e0 e1 e2 f0 f1 hq1 hq2
              go_wp2
              go_ret
              exact ⟨by cases q1 <;> rfl, hB8⟩
            · have m1' : ¬ m ≥ 0 := m0
              obtain rfl : q1 = false := by
                have h1 := hq1.out
                have h2 := hFV.out
                cases q1
                · rfl
                · exact absurd (h2.1 (h1.1 rfl)).1 m0
              clear hE5 hG5 hE6 hG6 hE7 hG7 hB5 hB6
              go_wp2
              all_goals go_ret
              all_goals exact ⟨rfl, hB7⟩)
end Go.Proofs.YtcmefdhpaajmbaaDoor
