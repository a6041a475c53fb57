/- The document's Twin of a list of matches, as a contract. -/
import Derived.Test.YtiegbnicijbpjaaDoorSrtC
namespace Go.Proofs.YtiegbnicijbpjaaDoor
open Go.ChangeShapes Go.WideShapes Go.ChangeAt Go.RowKit
set_option linter.unusedVariables false
set_option linter.unusedSimpArgs false

theorem sInfoI : (Tryd.prog.info? 3).map (fun i => (i.zero, i.size, i.bytes)) = some (some (.int .i64 0), 1, 8) := by kernel_rfl
theorem reads_intsO {w : World} {A : Option Addr} {zs : List Int} (h : IntsAt w A zs) : Reads w w.heap.size 1 A zs.length (icells zs) :=
  ⟨by simp [icells], fun hn => by
    obtain ⟨b, off, rfl, hc⟩ := h hn
    refine ⟨_, rfl, mblock (hc 0 _ (List.getElem?_eq_getElem hn)), fun j u hu => ?_⟩
    unfold icells at hu
    rw [List.getElem?_map] at hu
    obtain ⟨z, hz, rfl⟩ := Option.map_eq_some_iff.1 hu
    have := hc j z hz
    rwa [show (⟨b, off + j, none⟩ : Addr) = (⟨b, off, none⟩ : Addr).add j by unfold Addr.add; split <;> simp_all] at this⟩
theorem icellsO_one (zs : List Int) : ∀ u ∈ icells zs, u.oneCell' = true := fun u hu => by obtain ⟨z, _, rfl⟩ := List.mem_map.1 hu; rfl
set_option maxHeartbeats 8000000 in
set_option maxRecDepth 100000 in
theorem twin_any (A : Option Addr) (cap : Nat) (ms : List MT) (w : World) (hA : MatsAt w A ms) (hs : Small ms) :
    Calls Tryd.prog 5 #[.slice A ms.length cap] w fun e w' => ∃ a c xs, e = .returned (.slice a ms.length c) ∧ w'.ownsRow w.heap.size 27 3 (.slice a ms.length c) ms.length xs ∧ ListO w' w.heap.size ms xs ∧ Below w.heap.size w w' := by
  obtain ⟨i0, hi, hz0, hz1, hz2⟩ := info_parts sInfoI
  obtain ⟨j0, hj, hy0, hy1, hy2⟩ := info_parts sInfoR
  obtain ⟨m0, hm, hq0, hq1, hq2⟩ := info_parts sInfoM
  have hs1 := hs.1
  replace hA := Lib.hid hA
  replace hs := Lib.hid hs
  go_enter Tryd.func5, Tryd.ntmps5
  go_wp2_with fail
  go_loopw [3, 11] (fun v i wr => ∃ (k : Nat) (g : Option Addr) (c : Nat) (xs : List Value), k ≤ ms.length ∧ i = .int .i64 (k : Int) ∧ v = .slice g k c ∧ wr.ownsRow w.heap.size 27 3 v k xs ∧ ListO wr w.heap.size (ms.take k) xs ∧ Below w.heap.size w wr) (fun _ i _ => ms.length - (intOf i).toNat)
  case atStart => exact ⟨0, none, 0, [], Nat.zero_le _, rfl, rfl, World.ownsRow_nil _ _ _ _, by rw [List.take_zero]; exact ListO.nil _ _, Below.refl _ _⟩
  case round =>
    obtain ⟨k, g, c, xs, hk, rfl, rfl, hO, hL, hB⟩ := hrel
    have k0 : (0 : Int) ≤ (k : Int) := by omega
    by_cases hlt : k < ms.length
    · have k1 : (k : Int) < (ms.length : Int) := by omega
      obtain ⟨b, off, rfl, hc⟩ := hA.out (by omega)
      have hns : ms[k]? = some ms[k] := List.getElem?_eq_getElem hlt
      obtain ⟨r0, r1, A2, c2, r2, hR⟩ := hc k _ hns
      have hsm := hs.out.2 _ (List.getElem_mem hlt)
      generalize ms[k] = m at *
      obtain ⟨st, br, bs⟩ := m
      replace hsm := Lib.hid hsm
      replace r0 := cell_later hB r0
      replace r1 := cell_later hB r1
      replace r2 := cell_later hB r2
      have hgl : ∀ y, (Value.slice g k c).ownBlock = some y → y < wr.heap.size := fun y hy => by
        rcases hO.2 with ⟨h, _⟩ | ⟨g', _, cur, h, _, hh, _⟩
        · rw [h] at hy
          simp [Value.ownBlock] at hy
        · rw [h] at hy
          have : g' = y := by simpa [Value.ownBlock] using hy
          subst this
          exact (Array.getElem?_eq_some_iff.1 hh).1
      have hwB := hB.size
      have bm := Blk.made wr 27 #[.int .i64 st, .int .i64 br, .slice A2 bs.length c2]
      have hbu := m1 wr (matO st br A2 bs.length c2)
      have hRu := Lib.hid ((hR.later hB).later hbu)
      have hOu := Lib.hid (mown_below hO hbu)
      have hLu := Lib.hid (hL.keep (.below hbu))
      have hBu := mmore hB hbu
      replace hbu := Lib.hid hbu
      clear hc hR hO hL hB
      go_wp2_with fail
      have hue : (wr.alloc (matO st br A2 bs.length c2)).heap.size = wr.heap.size + 1 := by simp
      clear r0 r1 r2 hbu
      generalize wr.alloc (matO st br A2 bs.length c2) = u at *
      generalize wr.heap.size = B5 at hue bm hgl hwB ⊢
      go_loopw [6, 18] (fun v i wr => ∃ (j : Nat) (a : Option Addr) (d : Nat) (us : List Value), j ≤ bs.length ∧ i = .int .i64 (j : Int) ∧ v = .slice a j d ∧ wr.ownsRow u.heap.size 29 1 v j us ∧ RowsO wr u.heap.size (bs.take j) us ∧ Below u.heap.size u wr) (fun _ i _ => bs.length - (intOf i).toNat)
      case atStart => exact ⟨0, none, 0, [], Nat.zero_le _, rfl, rfl, World.ownsRow_nil _ _ _ _, ⟨by simp, fun i ks x hi hx => by simp at hx⟩, Below.refl _ _⟩
      case round =>
        obtain ⟨j, a, d, us, hj1, rfl, rfl, hO, hU, hBw⟩ := hrel
        have j0' : (0 : Int) ≤ (j : Int) := by omega
        by_cases hlj : j < bs.length
        · have j1 : (j : Int) < (bs.length : Int) := by omega
          obtain ⟨b2, off2, rfl, hc⟩ := hRu.out (by omega)
          have hn2 : bs[j]? = some bs[j] := List.getElem?_eq_getElem hlj
          obtain ⟨uu, q0, A3, c3, rfl, hI⟩ := hc j _ hn2
          have hl := hsm.out.2 _ (List.getElem_mem hlj)
          have hsb := hsm.out.1
          generalize bs[j] = ns at *
          replace q0 := cell_later hBw q0
          have hI := hI.later hBw
          have hbz := hBw.size
          have lb3 : j + 1 ≤ maxLen := by unfold maxLen; omega
          have lb4 : (j + 1) * 24 ≤ 140737488355328 := by omega
          have lb1 : 0 + ns.length ≤ maxLen := by unfold maxLen; omega
          have lb2 : (0 + ns.length) * 8 ≤ 140737488355328 := by omega
          have hO0 := World.ownsRow_lit (base := u.heap.size) (e := 3) (size := 1) wr #[] 0 hBw.size (by unfold maxLen; omega) rfl
          have hRd := Lib.hid (reads_intsO (hI.later (m1 wr (.cells #[] 3))))
          have hBw1 := hBw.alloc hBw.size (.cells #[] 3)
          replace hU := Lib.hid hU
          clear hc hI
          go_upto_region 9 with (fail)
          refine wp_region_lit ?_
          refine wpList_plain rfl fun K hK => ?_
          go_simp
          refine hK _ _ ?_
          clear hK
          refine wpList_plain rfl fun K hK => ?_
          go_simp
          refine hK _ _ ?_
          clear hK
          refine wpList_plain rfl fun K hK => ?_
          go_simp
          refine hK _ _ ?_
          clear hK
          refine wpList_append_any _ rfl (.tmp 23) (.tmp 24) 29 rfl u.heap.size 3 i0 (.int .i64 0) 1 8 Tryd.underlying29 hi hz0 hz1 hz2 rfl (by decide) (.slice (some ⟨wr.heap.size, 0, none⟩) 0 0) 0 [] rfl hO0 _ A3 ns.length c3 (icells ns) rfl hRd.out (icellsO_one ns) lb1 lb2 hBw1.size ?_
          intro v1 w1 ho1 hg1 _
          rw [Nat.zero_add, List.nil_append] at ho1
          obtain ⟨a1, d1, rfl⟩ := slice_ofO ho1
          have hb1 := below_grownO hBw1 (Nat.le_refl _) hO0 hg1
          have hbr : Below wr.heap.size wr w1 := ((m1 wr (.cells #[] 3))).grown hg1 (by simp) (fun j ej => Nat.le_of_eq (by simpa [Value.ownBlock] using ej))
          have hO1 := mown_below hO hbr
          have hU1 := hU.out.keep (.below hbr)
          replace ho1 := Lib.hid ho1
          replace hU1 := Lib.hid hU1
          replace hO1 := Lib.hid hO1
          replace hg1 := Lib.hid hg1
          go_wp2_with (at_builtin; refine wpList_append_own _ rfl (.tmp 22) (.tmp 26) 25 rfl u.heap.size 29 j0 (.slice none 0 0) 1 24 Tryd.underlying25 hj hy0 hy1 hy2 rfl (by decide) _ j us rfl (hO1.out.alloc _) ⟨w1.heap.size, 0, none⟩ 1 1 [.slice a1 ns.length d1] rfl rfl (cell_one_new _ _ _) (by simp [Value.oneCell']) lb3 lb4 (by have := hb1.size; simp; omega) ?_; intro v2 w2 ho2 hg2 _)
          go_roundw
          case rel =>
            obtain ⟨a2, d2, rfl⟩ : ∃ a c, v2 = .slice a (j + 1) c := by
              rcases ho2.2 with ⟨rfl, h0⟩ | ⟨g, cap, cur, rfl, _⟩
              · omega
              · exact ⟨_, _, rfl⟩
            exact ⟨j + 1, a2, d2, _, by omega, by go_num, rfl, ho2, rowsO_more hn2 ho1.out hO1.out hU1.out hg2, below_grownO (hb1.alloc hb1.size _) (Nat.le_refl _) (hO1.out.alloc _) hg2⟩
          case measure => simp [intOf]; omega
        · have hje : j = bs.length := by omega
          have j1 : ¬ (j : Int) < (bs.length : Int) := by omega
          subst hje
          rw [List.take_of_length_le (Nat.le_refl _)] at hU
          have bmr := bm.kept hBw
          have x0 : wr.cell? ⟨B5, 2, none⟩ = some (.slice A2 bs.length c2) := bmr.cell 2
          have x1 := bmr.free 2
          go_upto_region 12 with (fail)
          have kp : KeepO u.heap.size wr (wr.setCell ⟨B5, 2, none⟩ (.slice a bs.length d)) := KeepO.set (p := ⟨B5, 2, none⟩) bmr _
          have kq : KeepO w.heap.size wr (wr.setCell ⟨B5, 2, none⟩ (.slice a bs.length d)) := KeepO.set (p := ⟨B5, 2, none⟩) bmr _
          have hO5 := kp _ _ _ _ (by decide) hO
          have hU5 := hU.keep kp
          have hL5 := (hLu.out.keep (.below hBw)).keep kq
          have hS5 := mown_set (mown_below hOu.out hBw) (p := ⟨B5, 2, none⟩) (fun h => by have := hgl _ h; simp at this) (.slice a bs.length d)
          have b5 := bmr.put_ 2 (.slice a bs.length d)
          have hB5 : Below u.heap.size u wr := hBw
          have hBw5 : Below w.heap.size w (wr.setCell ⟨B5, 2, none⟩ (.slice a bs.length d)) := (mmore hBu hBw).setCell (p := ⟨B5, 2, none⟩) (hwB) (.slice a bs.length d)
          have hus : u.heap.size ≤ (wr.setCell ⟨B5, 2, none⟩ (.slice a bs.length d)).heap.size := by have := hBw.size; simp [World.setCell]; omega
          have huw := hBu.size
          clear x0 x1 bmr hO hU hBw hB5 kp kq hOu hLu
          generalize wr.setCell ⟨B5, 2, none⟩ (.slice a bs.length d) = w5 at *
          have x0 : w5.cell? ⟨B5, 0, none⟩ = some (.int .i64 st) := b5.cell 0
          have x1 : w5.cell? ⟨B5, 1, none⟩ = some (.int .i64 br) := b5.cell 1
          have x2 : w5.cell? ⟨B5, 2, none⟩ = some (.slice a bs.length d) := b5.cell 2
          refine wp_region_lit ?_
          refine wpList_plain rfl fun K hK => ?_
          go_simp
          refine hK _ _ ?_
          clear hK
          refine wpList_plain rfl fun K hK => ?_
          go_simp
          refine hK _ _ ?_
          clear hK
          refine wpList_plain rfl fun K hK => ?_
          go_simp
          refine hK _ _ ?_
          clear hK
          have bA := Blk.made w5 27 #[.int .i64 st, .int .i64 br, .slice a bs.length d]
          refine wpList_append_own _ rfl (.tmp 31) (.tmp 33) 22 rfl w.heap.size 27 m0 (.agg #[.int .i64 0, .int .i64 0, .slice none 0 0]) 3 40 Tryd.underlying22 hm hq0 hq1 hq2 rfl (by decide) (.slice g k c) k xs rfl (hS5.alloc _) ⟨w5.heap.size, 0, none⟩ 1 1 [.int .i64 st, .int .i64 br, .slice a bs.length d] rfl rfl
            (fun j q hq => by rw [← addr_add]; rw [bA.cell j]; simpa using hq) (by simp [Value.oneCell']) (by unfold maxLen; omega) (by omega) (by have := hBw5.size; simp; omega) ?_
          intro v6 w6 ho6 hg6 _
          obtain ⟨G, c6, rfl⟩ := ownsRow_succO ho6
          have kg : KeepO w.heap.size w5 w6 := KeepO.grown hS5 _ hg6
          have kh : KeepO u.heap.size w5 w6 := KeepO.grown hS5 _ hg6
          have hO6 := mown_mono (kh _ _ _ _ (by decide) hO5) huw
          have hU6 : RowsO w6 w.heap.size bs us := ⟨hU5.1, fun i ks x hi hx => mown_mono ((hU5.keep kh).2 i ks x hi hx) huw⟩
          have hL6 := (hL5.keep kg).more (st, br, bs) (.slice a bs.length d) us hO6 hU6
          have hB6 : Below w.heap.size w w6 := below_grownO (hBw5.alloc hBw5.size _) (Nat.le_refl _) (hS5.alloc _) hg6
          rw [show ms.take k ++ [(st, br, bs)] = ms.take (k + 1) by rw [List.take_add_one, hns]; rfl] at hL6
          clear hg6 kg kh hO6 hU6 bA hBw5 b5 hU5 hO5 hL5 hS5 x0 x1 x2
          replace hL6 := Lib.hid hL6
          replace hB6 := Lib.hid hB6
          replace ho6 := Lib.hid ho6
          go_wp2_with fail
          go_roundw
          case rel => exact ⟨k + 1, some ⟨G, 0, none⟩, c6, _, by omega, by go_num, rfl, ho6.out, hL6.out, hB6.out⟩
          case measure => simp [intOf]; omega
    · have hke : k = ms.length := by omega
      have k1 : ¬ (k : Int) < (ms.length : Int) := by omega
      subst hke
      rw [List.take_of_length_le (Nat.le_refl _)] at hL
      replace hO := Lib.hid hO
      replace hL := Lib.hid hL
      replace hB := Lib.hid hB
      go_wp2_with fail
      go_ret
      first | exact ⟨g, c, xs, rfl, hO.out, hL.out, hB.out⟩ | exact ⟨g, c, rfl, xs, hO.out, hL.out, hB.out⟩ | exact ⟨g, c, rfl, ⟨xs, hO.out, hL.out⟩, hB.out⟩
end Go.Proofs.YtiegbnicijbpjaaDoor
