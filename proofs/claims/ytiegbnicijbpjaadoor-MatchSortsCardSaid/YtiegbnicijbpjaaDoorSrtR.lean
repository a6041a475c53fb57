/- The document's Sort of matches, as a contract. -/
import Derived.Test.YtiegbnicijbpjaaDoorSrtQ
import Derived.Test.YtiegbnicijbpjaaDoorInvG
namespace Go.Proofs.YtiegbnicijbpjaaDoor
open Go.ChangeShapes Go.WideShapes Go.ChangeAt Go.RowKit
set_option linter.unusedVariables false
set_option linter.unusedSimpArgs false

/-- a match whose rows can be read in w -/
def MvIn (w : World) (m : MV) : Prop := RowsAt w m.A m.rows ∧ m.rows.length * 24 ≤ 140737488351232 ∧ ∀ l ∈ m.rows, l.length * 8 ≤ 140737488351232
theorem MvIn.later {w w1 : World} {m : MV} (h : MvIn w m) (hb : Below w.heap.size w w1) : MvIn w1 m := ⟨h.1.later hb, h.2⟩
theorem perm_hole {S : List MV} {m : MV} (i : Nat) : (S.take i ++ m :: S.drop i).Perm (m :: S) := by
  refine List.perm_middle.trans ?_
  rw [List.take_append_drop]
theorem ins_done {S : List MV} {m : MV} {i : Nat} (hs : SortedS (S.map MV.says)) (hi : i ≤ S.length) (hD : ∀ x ∈ (S.map MV.says).drop i, cmpS m.says x < 0) (ha : i = 0 ∨ ∃ y, (S.map MV.says)[i - 1]? = some y ∧ ¬ cmpS m.says y < 0) : SortedS ((S.take i ++ m :: S.drop i).map MV.says) := by
  have := sorted_in (m := m.says) hs (by rw [List.length_map]; exact hi) hD ha
  rw [List.map_append, List.map_cons, List.map_take, List.map_drop]
  exact this
set_option maxHeartbeats 16000000 in
set_option maxRecDepth 100000 in
theorem rsort_any (A : Option Addr) (cap : Nat) (ms : List MT) (w : World) (hA : MatsAt w A ms) (hs : Small ms) :
    Calls Tryd.prog 8 #[.slice A ms.length cap] w fun e w' => ∃ a c, ∃ S : List MV, e = .returned (.slice a ms.length c) ∧ (S.map MV.says).Perm ms ∧ SortedS (S.map MV.says) ∧ w'.ownsRow w.heap.size 27 3 (.slice a ms.length c) ms.length (flatM S) ∧ (∀ m ∈ S, MvIn w m) ∧ Below w.heap.size w w' := by
  obtain ⟨m0, hm, hq0, hq1, hq2⟩ := info_parts sInfoM
  have hs1 := hs.1
  replace hA := Lib.hid hA
  replace hs := Lib.hid hs
  go_enter Tryd.func8, Tryd.ntmps8
  go_wp2_with fail
  go_loopw [3, 9] (fun v i wr => ∃ (k : Nat) (g : Option Addr) (c : Nat) (S : List MV), k ≤ ms.length ∧ i = .int .i64 (k : Int) ∧ v = .slice g k c ∧ (k = 0 → g = none ∧ c = 0) ∧ S.length = k ∧ (S.map MV.says).Perm (ms.take k) ∧ SortedS (S.map MV.says) ∧ wr.ownsRow w.heap.size 27 3 v k (flatM S) ∧ (∀ m ∈ S, MvIn w m) ∧ Below w.heap.size w wr) (fun _ i _ => ms.length - (intOf i).toNat)
  case atStart => exact ⟨0, none, 0, [], Nat.zero_le _, rfl, rfl, fun _ => ⟨rfl, rfl⟩, rfl, by simp, List.Pairwise.nil, World.ownsRow_nil _ _ _ _, fun m h => by simp at h, Below.refl _ _⟩
  case round =>
    obtain ⟨k, g, c, S, hk, rfl, rfl, hg0, hSl, hP, hSo, hO, hIn, hB⟩ := hrel
    replace hg0 := Lib.hid hg0
    have k0 : (0 : Int) ≤ (k : Int) := by omega
    by_cases hlt : k < ms.length
    · have k1 : (k : Int) < (ms.length : Int) := by omega
      obtain ⟨b, off, rfl, hc⟩ := hA.out (by omega)
      have hns : ms[k]? = some ms[k] := List.getElem?_eq_getElem hlt
      obtain ⟨r0, r1, A2, c2, r2, hR⟩ := hc k _ hns
      have hsm := hs.out.2 _ (List.getElem_mem hlt)
      generalize ms[k] = m at *
      obtain ⟨st, br, bs⟩ := m
      have hmIn : MvIn w ⟨st, br, bs, A2, c2⟩ := ⟨hR, hsm⟩
      replace hmIn := Lib.hid hmIn
      replace r0 := cell_later hB r0
      replace r1 := cell_later hB r1
      replace r2 := cell_later hB r2
      have hgl : ∀ y, (Value.slice g k c).ownBlock = some y → y < wr.heap.size := fun y hy => by
        rcases hO.2 with ⟨h, _⟩ | ⟨g', _, cur, h, _, hh, _⟩
        · rw [h] at hy
          simp [Value.ownBlock] at hy
        · rw [h] at hy
          have : g' = y := by simpa [Value.ownBlock] using hy
          subst this
          exact (Array.getElem?_eq_some_iff.1 hh).1
      have hwB := hB.size
      have bm := Blk.made wr 27 #[.int .i64 st, .int .i64 br, .slice A2 bs.length c2]
      have hbu := m1 wr (matO st br A2 bs.length c2)
      have hOu := mown_below hO hbu
      have hBu := mmore hB hbu
      have hue : (wr.alloc (matO st br A2 bs.length c2)).heap.size = wr.heap.size + 1 := by simp
      replace hIn := Lib.hid hIn
      replace hP := Lib.hid hP
      replace hSo := Lib.hid hSo
      replace hgl := Lib.hid hgl
      replace hSl := Lib.hid hSl
      clear hc hR hO hB hbu hsm
      go_upto_region 6 with (fail)
      clear r0 r1 r2
      generalize wr.alloc (matO st br A2 bs.length c2) = u at *
      generalize wr.heap.size = B5 at hue bm hgl hwB ⊢
      have x0 : u.cell? ⟨B5, 0, none⟩ = some (.int .i64 st) := bm.cell 0
      have x1 : u.cell? ⟨B5, 1, none⟩ = some (.int .i64 br) := bm.cell 1
      have x2 : u.cell? ⟨B5, 2, none⟩ = some (.slice A2 bs.length c2) := bm.cell 2
      refine wp_region_lit ?_
      refine wpList_plain rfl fun K hK => ?_
      go_simp
      refine hK _ _ ?_
      clear hK
      refine wpList_plain rfl fun K hK => ?_
      go_simp
      refine hK _ _ ?_
      clear hK
      refine wpList_plain rfl fun K hK => ?_
      go_simp
      refine hK _ _ ?_
      clear hK
      have bA := Blk.made u 27 #[.int .i64 st, .int .i64 br, .slice A2 bs.length c2]
      obtain ⟨ba, hba1, hba2, hOa, hba0⟩ : ∃ ba, w.heap.size ≤ ba ∧ ba ≤ u.heap.size + 1 ∧ (u.alloc (.cells #[.int .i64 st, .int .i64 br, .slice A2 bs.length c2] 27)).ownsRow ba 27 3 (.slice g k c) k (flatM S) ∧ (k = 0 → ba = u.heap.size + 1) := by
        by_cases hk0 : k = 0
        · have h1 := hg0.out hk0
          have h2 := hSl.out
          have h3 : S = [] := List.length_eq_zero_iff.1 (by omega)
          obtain ⟨rfl, rfl⟩ := h1
          subst hk0 h3
          exact ⟨u.heap.size + 1, by have := hBu.size; omega, Nat.le_refl _, World.ownsRow_nil _ _ _ _, fun _ => rfl⟩
        · exact ⟨w.heap.size, Nat.le_refl _, by have := hBu.size; omega, hOu.alloc _, fun h => absurd h hk0⟩
      refine wpList_append_own _ rfl (.tmp 15) (.tmp 17) 22 rfl ba 27 m0 (.agg #[.int .i64 0, .int .i64 0, .slice none 0 0]) 3 40 Tryd.underlying22 hm hq0 hq1 hq2 rfl (by decide) (.slice g k c) k (flatM S) rfl hOa ⟨u.heap.size, 0, none⟩ 1 1 [.int .i64 st, .int .i64 br, .slice A2 bs.length c2] (by rw [hue]; rfl) rfl
        (fun j q hq => by rw [← addr_add]; rw [bA.cell j]; simpa using hq) (by simp [Value.oneCell']) (by unfold maxLen; omega) (by omega) (by simp; omega) ?_
      intro v6 w6 ho6 hg6 _
      obtain ⟨Gq, c6, rfl⟩ := ownsRow_succO ho6
      have hB6 : Below w.heap.size w w6 := below_grownO (hBu.alloc hBu.size _) (Nat.le_refl _) (hOu.alloc _) hg6
      have b6 : Blk w6 B5 27 #[.int .i64 st, .int .i64 br, .slice A2 bs.length c2] := (bm.kept (m1 u _)).grown hg6 (fun e => by have := hgl.out B5 e.symm; omega)
      have hGB : Gq ≠ B5 := fun e => by
        rcases ho6.2 with ⟨h, _⟩ | ⟨g', cap', cur, h, h1, h2, h3, _, h5, _⟩
        · simp at h
        · injection h with h _ h'
          injection h with h
          injection h with h _ _
          subst h e
          by_cases hk0 : k = 0
          · have := hba0 hk0
            omega
          · unfold Blk at b6
            rw [b6] at h2
            injection h2 with h2
            injection h2 with h2 _ _
            subst h2
            simp at h5
            omega
      have e6 : flatM S ++ [.int .i64 st, .int .i64 br, .slice A2 bs.length c2] = flatM (S.take k ++ ⟨st, br, bs, A2, c2⟩ :: S.drop k) := by
        have h := hSl.out
        rw [List.take_of_length_le (by omega), List.drop_eq_nil_of_le (by omega)]
        exact (flatM_more S ⟨st, br, bs, A2, c2⟩).symm
      rw [e6] at ho6
      replace ho6 := mown_mono ho6 hba1
      clear hOu hOa hg6 bA hba0 hba1 hba2 x0 x1 x2 bm hue hBu e6 hgl
      go_wp2_with fail
      have hSl' := hSl.out
      have hGw : w.heap.size ≤ Gq := by
        rcases ho6.2 with ⟨h, _⟩ | ⟨g', cap', cur, h, h1, _⟩
        · simp at h
        · injection h with h _ h'
          injection h with h
          injection h with h _ _
          subst h
          exact h1
      go_loopw [6] (fun v wr => ∃ (i : Nat) (jk : MV), i ≤ k ∧ v = .int .i64 (i : Int) ∧ wr.ownsRow w.heap.size 27 3 (.slice (some ⟨Gq, 0, none⟩) (k + 1) c6) (k + 1) (flatM (S.take i ++ jk :: S.drop i)) ∧ (∀ x ∈ (S.map MV.says).drop i, cmpS (st, br, bs) x < 0) ∧ Blk wr B5 27 #[.int .i64 st, .int .i64 br, .slice A2 bs.length c2] ∧ Below w.heap.size w wr) (fun i _ => (intOf i).toNat)
      case atStart => exact ⟨k, ⟨st, br, bs, A2, c2⟩, Nat.le_refl _, rfl, ho6, fun x hx => by rw [List.drop_eq_nil_of_le (by simp; omega)] at hx; simp at hx, b6, hB6⟩
      case round =>
        obtain ⟨i, jk, hi, rfl, hO, hD, hb, hW⟩ := hrel
        have i0' : (0 : Int) ≤ (i : Int) := by omega
        have x0 : wr.cell? ⟨B5, 0, none⟩ = some (.int .i64 st) := hb.cell 0
        have x1 : wr.cell? ⟨B5, 1, none⟩ = some (.int .i64 br) := hb.cell 1
        have x2 : wr.cell? ⟨B5, 2, none⟩ = some (.slice A2 bs.length c2) := hb.cell 2
        by_cases hi0 : i = 0
        · have i2 : ¬ (i : Int) > 0 := by omega
          have d2 : decide ((i : Int) > 0) = false := by simp; omega
          have f0 := hO.cells (g := Gq) rfl
          obtain ⟨g0, g1, g2⟩ := flatM_get (S.take i ++ jk :: S.drop i) i jk (by rw [List.getElem?_append_right (by rw [List.length_take]; omega), List.length_take, show i - min i S.length = 0 by omega]; rfl)
          have y0 : wr.cell? ⟨Gq, i * 3, none⟩ = some (.int .i64 jk.st) := by rw [addr_add]; exact f0 _ _ g0
          have y1 : wr.cell? ⟨Gq, i * 3 + 1, none⟩ = some (.int .i64 jk.br) := by rw [addr_add]; exact f0 _ _ g1
          have y2 : wr.cell? ⟨Gq, i * 3 + 2, none⟩ = some (.slice jk.A jk.rows.length jk.cap) := by rw [addr_add]; exact f0 _ _ g2
          have z0 := hO.frozenAt (i * 3)
          have z1 := hO.frozenAt (i * 3 + 1)
          have z2 := hO.frozenAt (i * 3 + 2)
          have hO8 : (wr.drewN 0).ownsRow w.heap.size 27 3 (.slice (some ⟨Gq, 0, none⟩) (k + 1) c6) (k + 1) (flatM (S.take i ++ jk :: S.drop i)) := hO
          have hW8 : Below w.heap.size w (wr.drewN 0) := hW
          clear f0 g0 g1 g2
          subst hi0
          simp only [Nat.zero_mul, Nat.zero_add] at y0 y1 y2 z0 z1 z2
          replace hO := Lib.hid hO
          replace hW := Lib.hid hW
          replace hD := Lib.hid hD
          go_upto_region 7 with (fail)
          go_quiet (fail)
          obtain ⟨i, hi0⟩ : ∃ i : Nat, i = 0 := ⟨0, rfl⟩
          have hO7 : (wr.drewN nq).ownsRow w.heap.size 27 3 (.slice (some ⟨Gq, 0, none⟩) (k + 1) c6) (k + 1) (flatM (S.take i ++ jk :: S.drop i)) := by rw [hi0]; exact hO.out
          have hW7 : Below w.heap.size w (wr.drewN nq) := ⟨hW.out.os, hW.out.tape, hW.out.output, hW.out.size, hW.out.block⟩
          have hD := hD.out
          rw [← hi0] at hD
          clear hO8 hW8
          have hO9 := Lib.hid (own_put hO7 i ⟨st, br, bs, A2, c2⟩ (by rw [hole_len (by omega)]; omega))
          have hO9' := hO9.out
          rw [hole_fill (by omega)] at hO9'
          have hB9 := ((hW7.setCell (p := ⟨Gq, i * 3, none⟩) hGw (.int .i64 st)).setCell (p := ⟨Gq, i * 3 + 1, none⟩) hGw (.int .i64 br)).setCell (p := ⟨Gq, i * 3 + 2, none⟩) hGw (.slice A2 bs.length c2)
          have hP9 : (((S.take i ++ (⟨st, br, bs, A2, c2⟩ : MV) :: S.drop i)).map MV.says).Perm (ms.take (k + 1)) := by
            refine ((perm_hole i).map _).trans ?_
            rw [List.take_add_one, hns]
            exact (List.Perm.cons _ hP.out).trans (List.perm_append_comm (l₁ := [(st, br, bs)]))
          have hS9 := Lib.hid (ins_done (m := (⟨st, br, bs, A2, c2⟩ : MV)) hSo.out (by omega : i ≤ S.length) hD (.inl hi0))
          have hI9 : ∀ m ∈ S.take i ++ (⟨st, br, bs, A2, c2⟩ : MV) :: S.drop i, MvIn w m := fun m hm => by
            rcases List.mem_append.1 hm with h | h
            · exact hIn.out m (List.mem_of_mem_take h)
            · rcases List.mem_cons.1 h with rfl | h
              · exact hmIn.out
              · exact hIn.out m (List.mem_of_mem_drop h)
          have hl9 : (S.take i ++ (⟨st, br, bs, A2, c2⟩ : MV) :: S.drop i).length = k + 1 := by rw [hole_len (by omega)]; omega
          clear hO9 hD
          generalize S.take i ++ (⟨st, br, bs, A2, c2⟩ : MV) :: S.drop i = S9 at *
          replace hO9' := Lib.hid hO9'
          replace hB9 := Lib.hid hB9
          replace hP9 := Lib.hid hP9
          replace hI9 := Lib.hid hI9
          replace hl9 := Lib.hid hl9
          clear hO7 hW7 hO hW
          subst hi0
          simp only [Nat.zero_mul, Nat.zero_add] at hO9' hB9
          go_wp2
          go_roundw
          case rel => first | (exact ⟨k + 1, some ⟨Gq, 0, none⟩, c6, S9, by omega, by go_num, rfl, fun h => absurd h (by omega), hl9.out, hP9.out, hS9.out, hO9'.out, hI9.out, hB9.out⟩) | (exact ⟨k + 1, some ⟨Gq, 0, none⟩, c6, S9, by omega, by go_num, rfl, fun h => absurd h (by omega), hl9.out, hP9.out, hS9.out, hO9'.out, hI9.out, hB9.out.drew⟩)
          case measure => simp [intOf]; omega
        · obtain ⟨q, hq⟩ : ∃ q, q + 1 = i := ⟨i - 1, by omega⟩
          have hql : q < S.length := by omega
          have hxq := List.getElem?_eq_getElem hql
          have hxm := hIn.out _ (List.getElem_mem hql)
          generalize S[q] = x at *
          have hsub : IntKind.i64.wrap ((i : Int) - 1) = (q : Int) := by rw [IntKind.wrap_i64]; omega
          have hsub2 : (i : Int) - 1 = (q : Int) := by omega
          have i2 : (i : Int) > 0 := by omega
          have d2 : decide ((i : Int) > 0) = true := by simp; omega
          have q0' : (0 : Int) ≤ (q : Int) := by omega
          have q1' : (q : Int) < ((k + 1 : Nat) : Int) := by omega
          have q2' : q < k + 1 := by omega
          have q3' : (q : Int) < (k : Int) + 1 := by omega
          have q4' : ¬ (k : Int) + 1 ≤ (q : Int) := by omega
          have hwq : IntKind.i64.wrap (q : Int) = (q : Int) := by rw [IntKind.wrap_i64]; omega
          have hi9 : 0 < i := by omega
          have f0 := hO.cells (g := Gq) rfl
          obtain ⟨g0, g1, g2⟩ := flatM_get (S.take i ++ jk :: S.drop i) i jk (by rw [List.getElem?_append_right (by rw [List.length_take]; omega), List.length_take, show i - min i S.length = 0 by omega]; rfl)
          have y0 : wr.cell? ⟨Gq, i * 3, none⟩ = some (.int .i64 jk.st) := by rw [addr_add]; exact f0 _ _ g0
          have y1 : wr.cell? ⟨Gq, i * 3 + 1, none⟩ = some (.int .i64 jk.br) := by rw [addr_add]; exact f0 _ _ g1
          have y2 : wr.cell? ⟨Gq, i * 3 + 2, none⟩ = some (.slice jk.A jk.rows.length jk.cap) := by rw [addr_add]; exact f0 _ _ g2
          have z0 := hO.frozenAt (i * 3)
          have z1 := hO.frozenAt (i * 3 + 1)
          have z2 := hO.frozenAt (i * 3 + 2)
          obtain ⟨h0, h1, h2⟩ := flatM_get (S.take i ++ jk :: S.drop i) q x (by rw [show q = i - 1 by omega, hole_before (by omega) (by omega), show i - 1 = q by omega]; exact hxq)
          have p0 : wr.cell? ⟨Gq, q * 3, none⟩ = some (.int .i64 x.st) := by rw [addr_add]; exact f0 _ _ h0
          have p1 : wr.cell? ⟨Gq, q * 3 + 1, none⟩ = some (.int .i64 x.br) := by rw [addr_add]; exact f0 _ _ h1
          have p2 : wr.cell? ⟨Gq, q * 3 + 2, none⟩ = some (.slice x.A x.rows.length x.cap) := by rw [addr_add]; exact f0 _ _ h2
          clear f0 g0 g1 g2 h0 h1 h2
          have RO : ∀ u, Below wr.heap.size wr u → Calls Tryd.prog 16 #[.agg #[.int .i64 st, .int .i64 br, .slice A2 bs.length c2], .agg #[.int .i64 x.st, .int .i64 x.br, .slice x.A x.rows.length x.cap]] u fun e w' => e = .returned (.int .i64 (ordM st br bs x.st x.br x.rows)) ∧ Below u.heap.size u w' := fun u hu =>
            rorder_any A2 x.A c2 x.cap st br x.st x.br bs x.rows u (hmIn.out.1.later (mmore hW hu)) (hxm.1.later (mmore hW hu)) (by have := hmIn.out.2.1; show bs.length ≤ _; simp only at this; omega) (by have := hxm.2.1; omega) (fun l hl => by have := hmIn.out.2.2 l hl; omega) (fun l hl => by have := hxm.2.2 l hl; omega)
          obtain ⟨cv, hcv⟩ : ∃ cv, ordM st br bs x.st x.br x.rows = cv := ⟨_, rfl⟩
          rw [hcv] at RO
          replace RO := Lib.hid RO
          replace hcv := Lib.hid hcv
          replace hO := Lib.hid hO
          replace hW := Lib.hid hW
          replace hD := Lib.hid hD
          replace hxq := Lib.hid hxq
          replace hxm := Lib.hid hxm
          have hqH := Lib.hid hq
          clear hq
          go_upto_region 7 with (fail)
          have KD := G.keepsD_true []
          refine G.region_words (fun w' => Blk w' B5 27 #[.int .i64 st, .int .i64 br, .slice A2 bs.length c2] ∧ Below wr.heap.size wr w') [G.isW (.int .i64 (i : Int)), G.isW (.bool true), G.isW (.bool true), G.isW (.agg #[.int .i64 st, .int .i64 br, .slice A2 bs.length c2]), G.isW (.slice (some ⟨Gq, 0, none⟩) (k + 1) c6), G.isW (.int .i64 (i : Int)), G.isW (.int .i64 (q : Int)), G.isW (.pointer (some ⟨Gq, q * 3, none⟩)), G.isW (.agg #[.int .i64 x.st, .int .i64 x.br, .slice x.A x.rows.length x.cap]), G.isW (.int .i64 cv), G.isW (.bool (decide (cv < 0))), G.isW (.bool (decide (cv < 0)))] (by kernel_rfl) (by repeat' (first | exact G.monoL_nil | exact G.is_mono _ | exact G.any_mono | refine G.monoL_cons ?_ ?_)) (by kernel_rfl) (by kernel_rfl) (fun _ _ h hb => ⟨h.1.kept hb, mmore h.2 hb⟩) ⟨hb.kept (Below.refl _ _).drew, (Below.refl _ _).drew⟩ ?_ ?_
          · intro KC
            refine G.stepsL_cons (fun a u hc hdd hd hk hdep => ?_) ?_
            ·
              have d6 : (a.tmps[6]?).getD undef = (.int .i64 (i : Int)) := hk 6 (by kernel_rfl)
              refine G.step_val KC KD hc hdd rfl (.int .i64 (i : Int)) u (G.wanted_plain rfl) ?_ rfl (Below.refl _ _)
              first | (go_simp; done) | rfl | (simp [go_sem, *]; done)
            refine G.stepsL_cons (fun a u hc hdd hd hk hdep => ?_) ?_
            ·
              have d19 : (a.tmps[19]?).getD undef = (.int .i64 (i : Int)) := hdep ⟨0, .data⟩ (by simp) rfl
              refine G.step_val KC KD hc hdd rfl (.bool true) u (G.wanted_plain rfl) ?_ rfl (Below.refl _ _)
              first | (go_simp; done) | rfl | (simp [go_sem, *]; done)
            refine G.stepsL_cons (fun a u hc hdd hd hk hdep => ?_) ?_
            ·
              have d20 : (a.tmps[20]?).getD undef = (.bool true) := hdep ⟨1, .data⟩ (by simp) rfl
              refine G.step_val KC KD hc hdd rfl (.bool true) u (G.wanted_plain rfl) ?_ rfl (Below.refl _ _)
              first | (go_simp; done) | rfl | (simp [go_sem, *]; done)
            refine G.stepsL_cons (fun a u hc hdd hd hk hdep => ?_) ?_
            ·
              have d5 : (a.tmps[5]?).getD undef = (.pointer (some ⟨B5, 0, none⟩)) := hk 5 (by kernel_rfl)
              refine G.step_val KC KD hc hdd rfl (.agg #[.int .i64 st, .int .i64 br, .slice A2 bs.length c2]) u ((G.wanted_guard (j := 2) (b := true) (c := true) rfl (hdep ⟨2, .guard⟩ (by simp) rfl)).trans rfl) ?_ rfl (Below.refl _ _)
              have s0 : u.cell? ⟨B5, 0, none⟩ = some (.int .i64 st) := hc.1.cell 0
              have s1 : u.cell? ⟨B5, 1, none⟩ = some (.int .i64 br) := hc.1.cell 1
              have s2 : u.cell? ⟨B5, 2, none⟩ = some (.slice A2 bs.length c2) := hc.1.cell 2
              have v0 := cell_later hc.2 p0
              have v1 := cell_later hc.2 p1
              have v2 := cell_later hc.2 p2
              first | (go_simp; done) | rfl | (simp [go_sem, *]; done)
            refine G.stepsL_cons (fun a u hc hdd hd hk hdep => ?_) ?_
            ·
              have d3 : (a.tmps[3]?).getD undef = (.slice (some ⟨Gq, 0, none⟩) (k + 1) c6) := hk 3 (by kernel_rfl)
              refine G.step_val KC KD hc hdd rfl (.slice (some ⟨Gq, 0, none⟩) (k + 1) c6) u ((G.wanted_guard (j := 2) (b := true) (c := true) rfl (hdep ⟨2, .guard⟩ (by simp) rfl)).trans rfl) ?_ rfl (Below.refl _ _)
              first | (go_simp; done) | rfl | (simp [go_sem, *]; done)
            refine G.stepsL_cons (fun a u hc hdd hd hk hdep => ?_) ?_
            ·
              have d6 : (a.tmps[6]?).getD undef = (.int .i64 (i : Int)) := hk 6 (by kernel_rfl)
              refine G.step_val KC KD hc hdd rfl (.int .i64 (i : Int)) u ((G.wanted_guard (j := 2) (b := true) (c := true) rfl (hdep ⟨2, .guard⟩ (by simp) rfl)).trans rfl) ?_ rfl (Below.refl _ _)
              first | (go_simp; done) | rfl | (simp [go_sem, *]; done)
            refine G.stepsL_cons (fun a u hc hdd hd hk hdep => ?_) ?_
            ·
              have d24 : (a.tmps[24]?).getD undef = (.int .i64 (i : Int)) := hdep ⟨5, .data⟩ (by simp) rfl
              refine G.step_val KC KD hc hdd rfl (.int .i64 (q : Int)) u ((G.wanted_guard (j := 2) (b := true) (c := true) rfl (hdep ⟨2, .guard⟩ (by simp) rfl)).trans rfl) ?_ rfl (Below.refl _ _)
              first | (go_simp; done) | rfl | (simp [go_sem, *]; done)
            refine G.stepsL_cons (fun a u hc hdd hd hk hdep => ?_) ?_
            ·
              have d23 : (a.tmps[23]?).getD undef = (.slice (some ⟨Gq, 0, none⟩) (k + 1) c6) := hdep ⟨4, .data⟩ (by simp) rfl
              have d25 : (a.tmps[25]?).getD undef = (.int .i64 (q : Int)) := hdep ⟨6, .data⟩ (by simp) rfl
              refine G.step_val KC KD hc hdd rfl (.pointer (some ⟨Gq, q * 3, none⟩)) u ((G.wanted_guard (j := 2) (b := true) (c := true) rfl (hdep ⟨2, .guard⟩ (by simp) rfl)).trans rfl) ?_ rfl (Below.refl _ _)
              first | (go_simp; done) | rfl | (simp [go_sem, *]; done)
            refine G.stepsL_cons (fun a u hc hdd hd hk hdep => ?_) ?_
            ·
              have d26 : (a.tmps[26]?).getD undef = (.pointer (some ⟨Gq, q * 3, none⟩)) := hdep ⟨7, .data⟩ (by simp) rfl
              refine G.step_val KC KD hc hdd rfl (.agg #[.int .i64 x.st, .int .i64 x.br, .slice x.A x.rows.length x.cap]) u ((G.wanted_guard (j := 2) (b := true) (c := true) rfl (hdep ⟨2, .guard⟩ (by simp) rfl)).trans rfl) ?_ rfl (Below.refl _ _)
              have s0 : u.cell? ⟨B5, 0, none⟩ = some (.int .i64 st) := hc.1.cell 0
              have s1 : u.cell? ⟨B5, 1, none⟩ = some (.int .i64 br) := hc.1.cell 1
              have s2 : u.cell? ⟨B5, 2, none⟩ = some (.slice A2 bs.length c2) := hc.1.cell 2
              have v0 := cell_later hc.2 p0
              have v1 := cell_later hc.2 p1
              have v2 := cell_later hc.2 p2
              first | (go_simp; done) | rfl | (simp [go_sem, *]; done)
            refine G.stepsL_cons (fun a u hc hdd hd hk hdep => ?_) ?_
            ·
              have d22 : (a.tmps[22]?).getD undef = (.agg #[.int .i64 st, .int .i64 br, .slice A2 bs.length c2]) := hdep ⟨3, .data⟩ (by simp) rfl
              have d27 : (a.tmps[27]?).getD undef = (.agg #[.int .i64 x.st, .int .i64 x.br, .slice x.A x.rows.length x.cap]) := hdep ⟨8, .data⟩ (by simp) rfl
              refine G.step_call KC KD hc hdd rfl 16 #[.agg #[.int .i64 st, .int .i64 br, .slice A2 bs.length c2], .agg #[.int .i64 x.st, .int .i64 x.br, .slice x.A x.rows.length x.cap]] ((G.wanted_guard (j := 2) (b := true) (c := true) rfl (hdep ⟨2, .chain⟩ (by simp) rfl)).trans rfl) (by first | (go_simp; done) | rfl) ?_
              exact (RO.out u hc.2).mono (by rintro e w' ⟨rfl, hb⟩; exact ⟨_, rfl, rfl, hb⟩)
            refine G.stepsL_cons (fun a u hc hdd hd hk hdep => ?_) ?_
            ·
              have d28 : (a.tmps[28]?).getD undef = (.int .i64 cv) := hdep ⟨9, .data⟩ (by simp) rfl
              refine G.step_val KC KD hc hdd rfl (.bool (decide (cv < 0))) u ((G.wanted_guard (j := 2) (b := true) (c := true) rfl (hdep ⟨2, .guard⟩ (by simp) rfl)).trans rfl) ?_ rfl (Below.refl _ _)
              first | (go_simp; done) | rfl | (simp [go_sem, *]; done)
            refine G.stepsL_cons (fun a u hc hdd hd hk hdep => ?_) ?_
            ·
              have d21 : (a.tmps[21]?).getD undef = (.bool true) := hdep ⟨2, .data⟩ (by simp) rfl
              have d29 : (a.tmps[29]?).getD undef = (.bool (decide (cv < 0))) := hdep ⟨10, .data⟩ (by simp) rfl
              refine G.step_val KC KD hc hdd rfl (.bool (decide (cv < 0))) u (G.wanted_plain rfl) ?_ rfl (Below.refl _ _)
              first | (go_simp; done) | rfl | (simp [go_sem, *]; done)
            exact G.stepsL_nil
          intro vs' wN hNN hh
          have eL : vs' 11 = (.bool (decide (cv < 0))) := by
            obtain ⟨-, -, -, -, -, -, -, -, -, -, -, eX, -⟩ := hh
            exact eX
          clear hh
          obtain ⟨hb7, hb8⟩ := hNN
          set_option maxRecDepth 100000 in simp only [List.take_succ_cons, List.take_zero, putAll, Act.put, List.setIfInBounds_toArray, List.set_cons_zero, List.set_cons_succ, Nat.reduceAdd, eL]
          clear eL RO
          have hO7 := mown_below hO.out hb8
          have hW7 := mmore hW.out hb8
          replace y0 := cell_later hb8 y0
          replace y1 := cell_later hb8 y1
          replace y2 := cell_later hb8 y2
          replace p0 := cell_later hb8 p0
          replace p1 := cell_later hb8 p1
          replace p2 := cell_later hb8 p2
          have z0 := hO7.frozenAt (i * 3)
          have z1 := hO7.frozenAt (i * 3 + 1)
          have z2 := hO7.frozenAt (i * 3 + 2)
          have x0 : wN.cell? ⟨B5, 0, none⟩ = some (.int .i64 st) := hb7.cell 0
          have x1 : wN.cell? ⟨B5, 1, none⟩ = some (.int .i64 br) := hb7.cell 1
          have x2 : wN.cell? ⟨B5, 2, none⟩ = some (.slice A2 bs.length c2) := hb7.cell 2
          have hD := hD.out
          have hq := hqH.out
          have ii0 : (0 : Int) ≤ (i : Int) := by omega
          have ii1 : (i : Int) < ((k + 1 : Nat) : Int) := by omega
          have ii2 : i < k + 1 := by omega
          clear hO hW hb8
          by_cases hlc : cv < 0
          · have hO9 := own_put hO7 i x (by rw [hole_len (by omega)]; omega)
            rw [hole_down (by omega) (by rw [show i - 1 = q by omega]; exact hxq.out), show i - 1 = q by omega] at hO9
            have hB9 := ((hW7.setCell (p := ⟨Gq, i * 3, none⟩) hGw (.int .i64 x.st)).setCell (p := ⟨Gq, i * 3 + 1, none⟩) hGw (.int .i64 x.br)).setCell (p := ⟨Gq, i * 3 + 2, none⟩) hGw (.slice x.A x.rows.length x.cap)
            have hb9 := ((hb7.else_ (p := ⟨Gq, i * 3, none⟩) hGB (.int .i64 x.st)).else_ (p := ⟨Gq, i * 3 + 1, none⟩) hGB (.int .i64 x.br)).else_ (p := ⟨Gq, i * 3 + 2, none⟩) hGB (.slice x.A x.rows.length x.cap)
            have hD9 : ∀ y ∈ (S.map MV.says).drop q, cmpS (st, br, bs) y < 0 := fun y hy => by
              have hqm : q < (S.map MV.says).length := by rw [List.length_map]; exact hql
              rw [List.drop_eq_getElem_cons hqm] at hy
              rcases List.mem_cons.1 hy with rfl | hy
              · have e : (S.map MV.says)[q] = x.says := by
                  have h := hxq.out
                  have h2 := List.getElem?_eq_getElem hqm
                  rw [List.getElem?_map, h] at h2
                  injection h2 with h2
                  exact h2.symm
                rw [e]
                show ordM st br bs x.st x.br x.rows < 0
                rw [hcv.out]; exact hlc
              · rw [hq] at hy; exact hD y hy
            replace hO9 := Lib.hid hO9
            replace hB9 := Lib.hid hB9
            replace hb9 := Lib.hid hb9
            replace hD9 := Lib.hid hD9
            replace hq := Lib.hid hq
            clear hD hO7 hW7 hb7
            go_wp2
            go_roundw
            case rel => exact ⟨q, x, by have := hq.out; omega, by go_num, hO9.out, hD9.out, hb9.out, hB9.out⟩
            case measure => have := hq.out; simp [intOf]; omega
          · have hA9 : i = 0 ∨ ∃ y, (S.map MV.says)[i - 1]? = some y ∧ ¬ cmpS (st, br, bs) y < 0 := .inr ⟨x.says, by rw [show i - 1 = q by omega, List.getElem?_map, hxq.out]; rfl, by show ¬ ordM st br bs x.st x.br x.rows < 0; rw [hcv.out]; exact hlc⟩
            have hO9 := Lib.hid (own_put hO7 i ⟨st, br, bs, A2, c2⟩ (by rw [hole_len (by omega)]; omega))
            have hO9' := hO9.out
            rw [hole_fill (by omega)] at hO9'
            have hB9 := ((hW7.setCell (p := ⟨Gq, i * 3, none⟩) hGw (.int .i64 st)).setCell (p := ⟨Gq, i * 3 + 1, none⟩) hGw (.int .i64 br)).setCell (p := ⟨Gq, i * 3 + 2, none⟩) hGw (.slice A2 bs.length c2)
            have hP9 : (((S.take i ++ (⟨st, br, bs, A2, c2⟩ : MV) :: S.drop i)).map MV.says).Perm (ms.take (k + 1)) := by
              refine ((perm_hole i).map _).trans ?_
              rw [List.take_add_one, hns]
              exact (List.Perm.cons _ hP.out).trans (List.perm_append_comm (l₁ := [(st, br, bs)]))
            have hS9 := Lib.hid (ins_done (m := (⟨st, br, bs, A2, c2⟩ : MV)) hSo.out (by omega : i ≤ S.length) hD hA9)
            have hI9 : ∀ m ∈ S.take i ++ (⟨st, br, bs, A2, c2⟩ : MV) :: S.drop i, MvIn w m := fun m hm => by
              rcases List.mem_append.1 hm with h | h
              · exact hIn.out m (List.mem_of_mem_take h)
              · rcases List.mem_cons.1 h with rfl | h
                · exact hmIn.out
                · exact hIn.out m (List.mem_of_mem_drop h)
            have hl9 : (S.take i ++ (⟨st, br, bs, A2, c2⟩ : MV) :: S.drop i).length = k + 1 := by rw [hole_len (by omega)]; omega
            clear hO9 hD
            generalize S.take i ++ (⟨st, br, bs, A2, c2⟩ : MV) :: S.drop i = S9 at *
            replace hO9' := Lib.hid hO9'
            replace hB9 := Lib.hid hB9
            replace hP9 := Lib.hid hP9
            replace hI9 := Lib.hid hI9
            replace hl9 := Lib.hid hl9
            clear hA9 hO7 hW7 hb7 hq hqH
            go_wp2
            go_roundw
            case rel => exact ⟨k + 1, some ⟨Gq, 0, none⟩, c6, S9, by omega, by go_num, rfl, fun h => absurd h (by omega), hl9.out, hP9.out, hS9.out, hO9'.out, hI9.out, hB9.out⟩
            case measure => simp [intOf]; omega
    · have hke : k = ms.length := by omega
      have k1 : ¬ (k : Int) < (ms.length : Int) := by omega
      subst hke
      rw [List.take_of_length_le (Nat.le_refl _)] at hP
      replace hO := Lib.hid hO
      replace hB := Lib.hid hB
      replace hIn := Lib.hid hIn
      replace hP := Lib.hid hP
      replace hSo := Lib.hid hSo
      replace hSl := Lib.hid hSl
      go_wp2_with fail
      go_ret
      first | exact ⟨g, c, S, rfl, hP.out, hSo.out, hO.out, hIn.out, hB.out⟩ | exact ⟨g, c, rfl, S, hP.out, hSo.out, hO.out, hIn.out, hB.out⟩
end Go.Proofs.YtiegbnicijbpjaaDoor
