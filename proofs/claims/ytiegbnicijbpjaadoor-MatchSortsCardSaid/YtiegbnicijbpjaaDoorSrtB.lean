/- The program's Sort of matches, as a contract; what slices.SortFunc does to matches of the call's own is its premise. -/
import Derived.Test.YtiegbnicijbpjaaDoorSrtA
namespace Go.Proofs.YtiegbnicijbpjaaDoor
open Go.ChangeShapes Go.WideShapes Go.ChangeAt Go.RowKit
set_option linter.unusedVariables false
set_option linter.unusedSimpArgs false

/-- sorted, by the program's order -/
def SortedS (ms : List MT) : Prop := ms.Pairwise fun x y => cmpS x y ≤ 0
/-- matches of the call's own in a block g -/
def OwnM (w : World) (base g cap : Nat) (ms : List MT) : Prop := ∃ xs, w.ownsRow base 27 3 (.slice (some ⟨g, 0, none⟩) ms.length cap) ms.length xs ∧ ListO w base ms xs
/-- what slices.SortFunc with Order does to such matches -/
def SortsM : Prop := ∀ (base g cap : Nat) (ms : List MT) (w : World), base ≤ w.heap.size → Small ms → OwnM w base g cap ms →
  Calls Tryd.prog 15 #[.slice (some ⟨g, 0, none⟩) ms.length cap, .func (.func 13) #[] #[]] w fun e w' => e = .returned (.tuple #[]) ∧ Below base w w' ∧ ∃ ms', ms'.Perm ms ∧ SortedS ms' ∧ OwnM w' base g cap ms'

theorem ownsRow_succO {W : World} {base n size : Nat} {e : TypeId} {v : Value} {xs : List Value} (h : W.ownsRow base e size v (n + 1) xs) : ∃ g c, v = .slice (some ⟨g, 0, none⟩) (n + 1) c := by
  rcases h.2 with ⟨_, h0⟩ | ⟨g, cap, cur, rfl, _⟩
  · omega
  · exact ⟨g, cap, rfl⟩
theorem below_grownO {w0 W w1 : World} {v : Value} {base : Nat} {e : TypeId} {size n : Nat} {xs : List Value} (h : Below w0.heap.size w0 W) (hb : w0.heap.size ≤ base) (ho : W.ownsRow base e size v n xs) (hg : W.grownBy w1 v.ownBlock) : Below w0.heap.size w0 w1 :=
  h.grown hg h.size (fun j ej => by
    rcases ho.2 with ⟨rfl, _⟩ | ⟨g, cap, cur, rfl, hg0, _⟩
    · simp [Value.ownBlock] at ej
    · obtain rfl : g = j := by simpa [Value.ownBlock] using ej
      omega)
set_option maxHeartbeats 8000000 in
set_option maxRecDepth 100000 in
theorem sort_of (hS : SortsM) (A : Option Addr) (cap : Nat) (ms : List MT) (w : World) (hA : MatsAt w A ms) (hs : Small ms) :
    Calls Tryd.prog 6 #[.slice A ms.length cap] w fun e w' => ∃ g c ms', e = .returned (.slice (some ⟨g, 0, none⟩) ms.length c) ∧ ms'.Perm ms ∧ SortedS ms' ∧ OwnM w' w.heap.size g c ms' ∧ Below w.heap.size w w' := by
  obtain ⟨j0, hj, hy0, hy1, hy2⟩ := info_parts sInfoR
  obtain ⟨m0, hm, hq0, hq1, hq2⟩ := info_parts sInfoM
  have hs1 := hs.1
  replace hA := Lib.hid hA
  replace hS := Lib.hid hS
  replace hs := Lib.hid hs
  go_enter Tryd.func6, Tryd.ntmps6
  go_wp2_with fail
  go_loopw [3, 12] (fun v i wr => ∃ (k g c : Nat) (xs : List Value), k ≤ ms.length ∧ i = .int .i64 (k : Int) ∧ v = .slice (some ⟨g, 0, none⟩) k c ∧ wr.ownsRow w.heap.size 27 3 v k xs ∧ ListO wr w.heap.size (ms.take k) xs ∧ Below w.heap.size w wr) (fun _ i _ => ms.length - (intOf i).toNat)
  case atStart => exact ⟨0, w.heap.size, 0, [], Nat.zero_le _, rfl, rfl, World.ownsRow_lit (base := w.heap.size) (e := 27) (size := 3) w #[] 0 (Nat.le_refl _) (by unfold maxLen; omega) rfl, by rw [List.take_zero]; exact ListO.nil _ _, m1 w _⟩
  case round =>
    obtain ⟨k, g, c, xs, hk, rfl, rfl, hO, hL, hB⟩ := hrel
    have k0 : (0 : Int) ≤ (k : Int) := by omega
    by_cases hlt : k < ms.length
    · have k1 : (k : Int) < (ms.length : Int) := by omega
      obtain ⟨b, off, rfl, hc⟩ := hA.out (by omega)
      have hns : ms[k]? = some ms[k] := List.getElem?_eq_getElem hlt
      obtain ⟨r0, r1, A2, c2, r2, hR⟩ := hc k _ hns
      have hsm := hs.out.2 _ (List.getElem_mem hlt)
      generalize ms[k] = m at *
      obtain ⟨st, br, bs⟩ := m
      replace hsm := Lib.hid hsm
      replace r0 := cell_later hB r0
      replace r1 := cell_later hB r1
      replace r2 := cell_later hB r2
      have hgl : g < wr.heap.size := by
        rcases hO.2 with ⟨h, _⟩ | ⟨g', _, cur, h, _, hh, _⟩
        · simp at h
        · injection h with h _ _
          injection h with h
          injection h with h _ _
          subst h
          exact (Array.getElem?_eq_some_iff.1 hh).1
      have hwB := hB.size
      have bm := Blk.made wr 27 #[.int .i64 st, .int .i64 br, .slice A2 bs.length c2]
      have hbu := m1 wr (matO st br A2 bs.length c2)
      have hRu := Lib.hid ((hR.later hB).later hbu)
      have hOu := Lib.hid (mown_below hO hbu)
      have hLu := Lib.hid (hL.keep (.below hbu))
      have hBu := mmore hB hbu
      replace hbu := Lib.hid hbu
      clear hc hR hO hL hB
      go_wp2_with fail
      have hue : (wr.alloc (matO st br A2 bs.length c2)).heap.size = wr.heap.size + 1 := by simp
      clear r0 r1 r2 hbu
      generalize wr.alloc (matO st br A2 bs.length c2) = u at *
      generalize wr.heap.size = B5 at hue bm hgl hwB ⊢
      go_loopw [6, 20] (fun v i wr => ∃ (j : Nat) (a : Option Addr) (d : Nat) (us : List Value), j ≤ bs.length ∧ i = .int .i64 (j : Int) ∧ v = .slice a j d ∧ wr.ownsRow u.heap.size 29 1 v j us ∧ RowsO wr u.heap.size (bs.take j) us ∧ Below u.heap.size u wr) (fun _ i _ => bs.length - (intOf i).toNat)
      case atStart =>
        exact ⟨0, some ⟨u.heap.size, 0, none⟩, 0, [], Nat.zero_le _, rfl, by first | rfl | rw [hue], by first | exact World.ownsRow_lit (base := u.heap.size) (e := 29) (size := 1) u #[] 0 (Nat.le_refl _) (by unfold maxLen; omega) rfl | (rw [← hue]; exact World.ownsRow_lit (base := u.heap.size) (e := 29) (size := 1) u #[] 0 (Nat.le_refl _) (by unfold maxLen; omega) rfl), ⟨by simp, fun i ks x hi hx => by simp at hx⟩, m1 u _⟩
      case round =>
        obtain ⟨j, a, d, us, hj1, rfl, rfl, hO, hU, hBw⟩ := hrel
        have j0' : (0 : Int) ≤ (j : Int) := by omega
        by_cases hlj : j < bs.length
        · have j1 : (j : Int) < (bs.length : Int) := by omega
          obtain ⟨b2, off2, rfl, hc⟩ := hRu.out (by omega)
          have hn2 : bs[j]? = some bs[j] := List.getElem?_eq_getElem hlj
          obtain ⟨uu, q0, A3, c3, rfl, hI⟩ := hc j _ hn2
          have hl := hsm.out.2 _ (List.getElem_mem hlj)
          have hsb := hsm.out.1
          generalize bs[j] = ns at *
          replace q0 := cell_later hBw q0
          have hI := hI.later hBw
          have hCl := Lib.hid (clone_any A3 c3 ns wr hI (by omega))
          have hbz := hBw.size
          have lb3 : j + 1 ≤ maxLen := by unfold maxLen; omega
          have lb4 : (j + 1) * 24 ≤ 140737488355328 := by omega
          replace hU := Lib.hid hU
          replace hO := Lib.hid hO
          clear hc hI
          go_wp2_with (first
            | (go_at_call 14; refine hCl.out.mono ?_; rintro e w1 ⟨a1, d1, rfl, ho1, hb1⟩;
               have hO1 := mown_below hO.out hb1; have hU1 := Lib.hid (hU.out.keep (.below hb1)); have hb1s := hb1.size; replace ho1 := Lib.hid (mown_mono ho1 hbz); replace hO1 := Lib.hid hO1; replace hb1 := Lib.hid hb1)
            | (at_builtin; refine wpList_append_own _ rfl (.tmp 24) (.tmp 27) 25 rfl u.heap.size 29 j0 (.slice none 0 0) 1 24 Tryd.underlying25 hj hy0 hy1 hy2 rfl (by decide) _ j us rfl (hO1.out.alloc _) ⟨w1.heap.size, 0, none⟩ 1 1 [.slice a1 ns.length d1] rfl rfl (cell_one_new _ _ _) (by simp [Value.oneCell']) lb3 lb4 (by simp; omega) ?_; intro v2 w2 ho2 hg2 _))
          go_roundw
          case rel =>
            obtain ⟨a2, d2, rfl⟩ : ∃ a c, v2 = .slice a (j + 1) c := by
              rcases ho2.2 with ⟨rfl, h0⟩ | ⟨g, cap, cur, rfl, _⟩
              · omega
              · exact ⟨_, _, rfl⟩
            exact ⟨j + 1, a2, d2, _, by omega, by go_num, rfl, ho2, rowsO_more hn2 ho1.out hO1.out hU1.out hg2, below_grownO ((mmore hBw hb1.out).alloc (by omega) _) (Nat.le_refl _) (hO1.out.alloc _) hg2⟩
          case measure => simp [intOf]; omega
        · have hje : j = bs.length := by omega
          have j1 : ¬ (j : Int) < (bs.length : Int) := by omega
          subst hje
          rw [List.take_of_length_le (Nat.le_refl _)] at hU
          have bmr := bm.kept hBw
          have x0 : wr.cell? ⟨B5, 2, none⟩ = some (.slice A2 bs.length c2) := bmr.cell 2
          have x1 := bmr.free 2
          go_upto_region 12 with (fail)
          have kp : KeepO u.heap.size wr (wr.setCell ⟨B5, 2, none⟩ (.slice a bs.length d)) := KeepO.set (p := ⟨B5, 2, none⟩) bmr _
          have kq : KeepO w.heap.size wr (wr.setCell ⟨B5, 2, none⟩ (.slice a bs.length d)) := KeepO.set (p := ⟨B5, 2, none⟩) bmr _
          have hO5 := kp _ _ _ _ (by decide) hO
          have hU5 := hU.keep kp
          have hL5 := (hLu.out.keep (.below hBw)).keep kq
          have hS5 := mown_set (mown_below hOu.out hBw) (p := ⟨B5, 2, none⟩) (by simp [Value.ownBlock]; omega) (.slice a bs.length d)
          have b5 := bmr.put_ 2 (.slice a bs.length d)
          have hB5 : Below u.heap.size u wr := hBw
          have hBw5 : Below w.heap.size w (wr.setCell ⟨B5, 2, none⟩ (.slice a bs.length d)) := (mmore hBu hBw).setCell (p := ⟨B5, 2, none⟩) (hwB) (.slice a bs.length d)
          have hus : u.heap.size ≤ (wr.setCell ⟨B5, 2, none⟩ (.slice a bs.length d)).heap.size := by have := hBw.size; simp [World.setCell]; omega
          have huw := hBu.size
          clear x0 x1 bmr hO hU hBw hB5 kp kq hOu hLu
          generalize wr.setCell ⟨B5, 2, none⟩ (.slice a bs.length d) = w5 at *
          have x0 : w5.cell? ⟨B5, 0, none⟩ = some (.int .i64 st) := b5.cell 0
          have x1 : w5.cell? ⟨B5, 1, none⟩ = some (.int .i64 br) := b5.cell 1
          have x2 : w5.cell? ⟨B5, 2, none⟩ = some (.slice a bs.length d) := b5.cell 2
          refine wp_region_lit ?_
          refine wpList_plain rfl fun K hK => ?_
          go_simp
          refine hK _ _ ?_
          clear hK
          refine wpList_plain rfl fun K hK => ?_
          go_simp
          refine hK _ _ ?_
          clear hK
          refine wpList_plain rfl fun K hK => ?_
          go_simp
          refine hK _ _ ?_
          clear hK
          have bA := Blk.made w5 27 #[.int .i64 st, .int .i64 br, .slice a bs.length d]
          refine wpList_append_own _ rfl (.tmp 32) (.tmp 34) 22 rfl w.heap.size 27 m0 (.agg #[.int .i64 0, .int .i64 0, .slice none 0 0]) 3 40 Tryd.underlying22 hm hq0 hq1 hq2 rfl (by decide) (.slice (some ⟨g, 0, none⟩) k c) k xs rfl (hS5.alloc _) ⟨w5.heap.size, 0, none⟩ 1 1 [.int .i64 st, .int .i64 br, .slice a bs.length d] rfl rfl
            (fun j q hq => by rw [← addr_add]; rw [bA.cell j]; simpa using hq) (by simp [Value.oneCell']) (by unfold maxLen; omega) (by omega) (by have := hBw5.size; simp; omega) ?_
          intro v6 w6 ho6 hg6 _
          obtain ⟨G, c6, rfl⟩ := ownsRow_succO ho6
          have kg : KeepO w.heap.size w5 w6 := KeepO.grown hS5 _ hg6
          have kh : KeepO u.heap.size w5 w6 := KeepO.grown hS5 _ hg6
          have hO6 := mown_mono (kh _ _ _ _ (by decide) hO5) huw
          have hU6 : RowsO w6 w.heap.size bs us := ⟨hU5.1, fun i ks x hi hx => mown_mono ((hU5.keep kh).2 i ks x hi hx) huw⟩
          have hL6 := (hL5.keep kg).more (st, br, bs) (.slice a bs.length d) us hO6 hU6
          have hB6 : Below w.heap.size w w6 := below_grownO (hBw5.alloc hBw5.size _) (Nat.le_refl _) (hS5.alloc _) hg6
          rw [show ms.take k ++ [(st, br, bs)] = ms.take (k + 1) by rw [List.take_add_one, hns]; rfl] at hL6
          clear hg6 kg kh hO6 hU6 bA hBw5 b5 hU5 hO5 hL5 hS5 x0 x1 x2
          replace hL6 := Lib.hid hL6
          replace hB6 := Lib.hid hB6
          replace ho6 := Lib.hid ho6
          go_wp2_with fail
          go_roundw
          case rel => exact ⟨k + 1, G, c6, _, by omega, by go_num, rfl, ho6.out, hL6.out, hB6.out⟩
          case measure => simp [intOf]; omega
    · have hke : k = ms.length := by omega
      have k1 : ¬ (k : Int) < (ms.length : Int) := by omega
      subst hke
      rw [List.take_of_length_le (Nat.le_refl _)] at hL
      have hQ := Lib.hid (hS.out w.heap.size g c ms wr hB.size hs.out ⟨xs, hO, hL⟩)
      replace hB := Lib.hid hB
      clear hO hL
      go_wp2_with (go_at_call 15; refine hQ.out.mono ?_; rintro e w1 ⟨rfl, hb1, ms', hp, hsd, hOw⟩)
      go_ret
      exact ⟨g, c, ms', rfl, hp, hsd, hOw, hB.out.trans hb1⟩
end Go.Proofs.YtiegbnicijbpjaaDoor
