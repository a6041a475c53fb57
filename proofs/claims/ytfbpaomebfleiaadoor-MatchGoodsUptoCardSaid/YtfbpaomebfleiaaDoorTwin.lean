/- A match in memory of its own (the document's Twin, of one match), as a contract. -/
import Derived.Test.YtfbpaomebfleiaaDoorPar
import Derived.Test.YtfbpaomebfleiaaDoorOrdB
import Derived.Test.YtfbpaomebfleiaaDoorWords
import Derived.Deep.CutRange
import Derived.Deep.DeepCutAuto
namespace Go.Proofs.YtfbpaomebfleiaaDoor
open Go.ChangeShapes Go.WideShapes Go.ChangeAt Go.RowKit
set_option linter.unusedVariables false
set_option linter.unusedSimpArgs false

theorem infoM : (Tryd.prog.info? 24).map (fun i => (i.zero, i.size, i.bytes)) = some (some (.agg #[.int .i64 0, .int .i64 0, .slice none 0 0]), 3, 40) := by kernel_rfl
theorem infoI : (Tryd.prog.info? 3).map (fun i => (i.zero, i.size, i.bytes)) = some (some (.int .i64 0), 1, 8) := by kernel_rfl
theorem reads_ints {w : World} {A : Option Addr} {zs : List Int} (h : IntsAt w A zs) : Reads w w.heap.size 1 A zs.length (icells zs) :=
  ⟨by simp [icells], fun hn => by
    obtain ⟨b, off, rfl, hc⟩ := h hn
    refine ⟨_, rfl, mblock (hc 0 _ (List.getElem?_eq_getElem hn)), fun j u hu => ?_⟩
    unfold icells at hu
    rw [List.getElem?_map] at hu
    obtain ⟨z, hz, rfl⟩ := Option.map_eq_some_iff.1 hu
    have := hc j z hz
    rwa [show (⟨b, off + j, none⟩ : Addr) = (⟨b, off, none⟩ : Addr).add j by unfold Addr.add; split <;> simp_all] at this⟩
theorem icells_one (zs : List Int) : ∀ u ∈ icells zs, u.oneCell' = true := fun u hu => by obtain ⟨z, _, rfl⟩ := List.mem_map.1 hu; rfl
/-- a row more to rows of the call's own -/
theorem rows_more {W w1 : World} {base k : Nat} {v pv : Value} {us : List Value} {bs : List (List Int)} {ns : List Int} (hns : bs[k]? = some ns) (hpv : W.ownsRow base 3 1 pv ns.length (icells ns)) (h2 : W.ownsRow base 31 1 v k us) (h3 : RowsOwnL W base (bs.take k) us)
    (hg : (W.alloc (.cells #[pv] 31)).grownBy w1 v.ownBlock) : RowsOwnL w1 base (bs.take (k + 1)) (us ++ [pv]) := by
  have hp : w1.ownsRow base 3 1 pv ns.length (icells ns) := (mown_below hpv (m1 W _)).kept hg (by
    rcases mown_ne hpv h2 (by decide) with h | h
    · exact .inl h
    · exact .inr h)
  have hus : ∀ (i : Nat) (ks : List Int) (y : Value), (bs.take k)[i]? = some ks → us[i]? = some y → w1.ownsRow base 3 1 y ks.length (icells ks) := fun i ks y hi hy => (mown_below (h3.2 i ks y hi hy) (m1 W _)).kept hg (by
    rcases mown_ne (h3.2 i ks y hi hy) h2 (by decide) with h | h
    · exact .inl h
    · exact .inr h)
  have hpl : k < bs.length := (List.getElem?_eq_some_iff.1 hns).1
  have hul : us.length = k := by have := h3.1; simp at this; omega
  refine ⟨by rw [List.length_take, List.length_append, hul]; simp; omega, fun i ks y hi hy => ?_⟩
  by_cases c : i < k
  · rw [List.getElem?_append_left (by omega)] at hy
    refine hus i ks y ?_ hy
    rw [List.getElem?_take_of_lt c]
    rwa [List.getElem?_take_of_lt (by omega)] at hi
  · have hi2 := (List.getElem?_eq_some_iff.1 hy).1
    rw [List.length_append] at hi2
    simp at hi2
    obtain rfl : i = k := by omega
    rw [List.getElem?_append_right (by omega), hul, Nat.sub_self] at hy
    simp at hy
    subst hy
    rw [List.getElem?_take_of_lt (by omega), hns] at hi
    injection hi with hi
    subst hi
    exact hp
theorem rows_later {W W' : World} {base : Nat} {kss : List (List Int)} {us : List Value} (h : RowsOwnL W base kss us) (hb : Below W.heap.size W W') : RowsOwnL W' base kss us := ⟨h.1, fun i ks x hi hx => mown_below (h.2 i ks x hi hx) hb⟩
theorem slice_of {W : World} {base n : Nat} {e : TypeId} {size : Nat} {v : Value} {xs : List Value} (h : W.ownsRow base e size v n xs) : ∃ a c, v = .slice a n c := by
  rcases h.2 with ⟨rfl, h0⟩ | ⟨g, cap, cur, rfl, _⟩
  · exact ⟨none, 0, by rw [h0]⟩
  · exact ⟨_, _, rfl⟩
theorem below_grown {w0 W w1 : World} {v : Value} {base : Nat} {e : TypeId} {size n : Nat} {xs : List Value} (h : Below w0.heap.size w0 W) (hb : w0.heap.size ≤ base) (ho : W.ownsRow base e size v n xs) (hg : W.grownBy w1 v.ownBlock) : Below w0.heap.size w0 w1 :=
  h.grown hg h.size (fun j ej => by
    rcases ho.2 with ⟨rfl, _⟩ | ⟨g, cap, cur, rfl, hg0, _⟩
    · simp [Value.ownBlock] at ej
    · obtain rfl : g = j := by simpa [Value.ownBlock] using ej
      omega)

/-- the twin as it lies -/
def TwinIs (w : World) (st br : Int) (bs : List (List Int)) (e : Ending) (w' : World) : Prop :=
  ∃ G c v us, e = .returned (.slice (some ⟨G, 0, none⟩) 1 c) ∧ w'.cell? ⟨G, 0, none⟩ = some (.int .i64 st) ∧ w'.cell? ⟨G, 1, none⟩ = some (.int .i64 br) ∧ w'.cell? ⟨G, 2, none⟩ = some v ∧ w'.ownsRow w.heap.size 31 1 v bs.length us ∧ RowsOwnL w' w.heap.size bs us ∧ Below w.heap.size w w'
set_option maxHeartbeats 8000000 in
set_option maxRecDepth 100000 in
theorem twin_one (g : Nat) (st br : Int) (A : Option Addr) (cap : Nat) (bs : List (List Int)) (w : World) (h0 : w.cell? ⟨g, 0, none⟩ = some (.int .i64 st)) (h1 : w.cell? ⟨g, 1, none⟩ = some (.int .i64 br)) (h2 : w.cell? ⟨g, 2, none⟩ = some (.slice A bs.length cap)) (hR : RowsAt w A bs)
    (hx : bs.length * 24 ≤ 140737488351232) (hx2 : ∀ l ∈ bs, l.length * 8 ≤ 140737488351232) :
    Calls Tryd.prog 14 #[.slice (some ⟨g, 0, none⟩) 1 1] w (TwinIs w st br bs) := by
  obtain ⟨i0, hi, hz0, hz1, hz2⟩ := info_parts infoI
  obtain ⟨j0, hj, hy0, hy1, hy2⟩ := info_parts infoRows
  obtain ⟨m0, hm, hq0, hq1, hq2⟩ := info_parts infoM
  replace hx2 := Lib.hid hx2
  go_enter Tryd.func14, Tryd.ntmps14
  go_wp2_with fail
  go_loopw [3, 11] (fun v i wr => (i = .int .i64 0 ∧ v = .slice none 0 0 ∧ w = wr) ∨ (i = .int .i64 1 ∧ TwinIs w st br bs (.returned v) wr)) (fun _ i _ => 1 - (intOf i).toNat)
  case atStart => exact .inl ⟨rfl, rfl, rfl⟩
  case round =>
    rcases hrel with ⟨rfl, rfl, rfl⟩ | ⟨rfl, hT⟩
    · have gl : g < w.heap.size := mblock h0
      have bm := Blk.made w 24 #[.int .i64 st, .int .i64 br, .slice A bs.length cap]
      have hbu := m1 w (matO st br A bs.length cap)
      have hRu := Lib.hid (hR.later hbu)
      have ne0 : ¬ g = w.heap.size := by omega
      have ne1 : ¬ w.heap.size = g := by omega
      clear hR
      go_wp2_with fail
      generalize w.alloc (matO st br A bs.length cap) = u at *
      go_loopw [6, 18] (fun v i wr => ∃ (k : Nat) (us : List Value), k ≤ bs.length ∧ i = .int .i64 (k : Int) ∧ wr.ownsRow u.heap.size 31 1 v k us ∧ RowsOwnL wr u.heap.size (bs.take k) us ∧ Below u.heap.size u wr) (fun _ i _ => bs.length - (intOf i).toNat)
      case atStart => exact ⟨0, [], Nat.zero_le _, rfl, World.ownsRow_nil _ _ _ _, ⟨by simp, fun i ks x hi hx => by simp at hx⟩, Below.refl _ _⟩
      case round =>
        obtain ⟨k, us, hk, rfl, hO, hU, hBu⟩ := hrel
        have k0 : (0 : Int) ≤ (k : Int) := by omega
        by_cases hlt : k < bs.length
        · have k1 : (k : Int) < (bs.length : Int) := by omega
          obtain ⟨b, off, rfl, hc⟩ := hRu.out (by omega)
          obtain ⟨uu, r0, A2, c9, rfl, hI⟩ := hc k _ (List.getElem?_eq_getElem hlt)
          have r0 := cell_later hBu r0
          have hI := hI.later hBu
          have hl := hx2.out _ (List.getElem_mem hlt)
          have hns : bs[k]? = some bs[k] := List.getElem?_eq_getElem hlt
          clear hc
          generalize bs[k] = ns at *
          have hO0 := World.ownsRow_lit (base := u.heap.size) (e := 3) (size := 1) wr #[] 0 hBu.size (by unfold maxLen; omega) rfl
          have hRd := Lib.hid (reads_ints (hI.later (m1 wr (.cells #[] 3))))
          have lb1 : 0 + ns.length ≤ maxLen := by unfold maxLen; omega
          have lb2 : (0 + ns.length) * 8 ≤ 140737488355328 := by omega
          have lb3 : k + 1 ≤ maxLen := by unfold maxLen; omega
          have lb4 : (k + 1) * 24 ≤ 140737488355328 := by omega
          have hBw1 := hBu.alloc hBu.size (.cells #[] 3)
          replace hU := Lib.hid hU
          clear hI
          go_upto_region 9 with (fail)
          refine wp_region_lit ?_
          refine wpList_plain rfl fun K hK => ?_
          go_simp
          refine hK _ _ ?_
          clear hK
          refine wpList_plain rfl fun K hK => ?_
          go_simp
          refine hK _ _ ?_
          clear hK
          refine wpList_plain rfl fun K hK => ?_
          go_simp
          refine hK _ _ ?_
          clear hK
          refine wpList_append_any _ rfl (.tmp 23) (.tmp 24) 31 rfl u.heap.size 3 i0 (.int .i64 0) 1 8 Tryd.underlying31 hi hz0 hz1 hz2 rfl (by decide) (.slice (some ⟨wr.heap.size, 0, none⟩) 0 0) 0 [] rfl hO0 _ A2 ns.length c9 (icells ns) rfl hRd.out (icells_one ns) lb1 lb2 hBw1.size ?_
          intro v1 w1 ho1 hg1 _
          rw [Nat.zero_add, List.nil_append] at ho1
          obtain ⟨a1, c1, rfl⟩ := slice_of ho1
          have hb1 := below_grown hBw1 (Nat.le_refl _) hO0 hg1
          have hbr : Below wr.heap.size wr w1 := ((m1 wr (.cells #[] 3))).grown hg1 (by simp) (fun j ej => Nat.le_of_eq (by simpa [Value.ownBlock] using ej))
          have hO1 := mown_below hO hbr
          have hU1 := rows_later hU.out hbr
          replace ho1 := Lib.hid ho1
          replace hU1 := Lib.hid hU1
          replace hO1 := Lib.hid hO1
          replace hg1 := Lib.hid hg1
          go_wp2_with (at_builtin; refine wpList_append_own _ rfl (.tmp 22) (.tmp 26) 22 rfl u.heap.size 31 j0 (.slice none 0 0) 1 24 Tryd.underlying22 hj hy0 hy1 hy2 rfl (by decide) _ k us rfl (hO1.out.alloc _) ⟨w1.heap.size, 0, none⟩ 1 1 [.slice a1 ns.length c1] rfl rfl (cell_one_new _ _ _) (by simp [Value.oneCell']) lb3 lb4 (by have := hb1.size; simp; omega) ?_; intro v2 w2 ho2 hg2 _)
          go_roundw
          case rel => exact ⟨k + 1, _, by omega, by go_num, ho2, rows_more hns ho1.out hO1.out hU1.out hg2, below_grown (hb1.alloc hb1.size _) (Nat.le_refl _) (hO1.out.alloc _) hg2⟩
          case measure => simp [intOf]; omega
        · have hke : k = bs.length := by omega
          have k1 : ¬ (k : Int) < (bs.length : Int) := by omega
          subst hke
          rw [List.take_of_length_le (Nat.le_refl _)] at hU
          obtain ⟨va, vc, rfl⟩ := slice_of hO
          have bmr := bm.kept hBu
          have x0 : wr.cell? ⟨w.heap.size, 2, none⟩ = some (.slice A bs.length cap) := bmr.cell 2
          have x1 := bmr.free 2
          go_upto_region 12 with (fail)
          have hU5 := rows_set (p := ⟨w.heap.size, 2, none⟩) bmr (by decide) (by decide) (.slice va bs.length vc) ⟨hO, hU⟩
          have b5 := bmr.put_ 2 (.slice va bs.length vc)
          have hB5 := (mmore hbu hBu).setCell (p := ⟨w.heap.size, 2, none⟩) (Nat.le_refl _) (.slice va bs.length vc)
          clear x0 x1 bmr hO hU hBu
          generalize wr.setCell ⟨w.heap.size, 2, none⟩ (.slice va bs.length vc) = w5 at *
          have x0 : w5.cell? ⟨w.heap.size, 0, none⟩ = some (.int .i64 st) := b5.cell 0
          have x1 : w5.cell? ⟨w.heap.size, 1, none⟩ = some (.int .i64 br) := b5.cell 1
          have x2 : w5.cell? ⟨w.heap.size, 2, none⟩ = some (.slice va bs.length vc) := b5.cell 2
          refine wp_region_lit ?_
          refine wpList_plain rfl fun K hK => ?_
          go_simp
          refine hK _ _ ?_
          clear hK
          refine wpList_plain rfl fun K hK => ?_
          go_simp
          refine hK _ _ ?_
          clear hK
          refine wpList_plain rfl fun K hK => ?_
          go_simp
          refine hK _ _ ?_
          clear hK
          have bA := Blk.made w5 24 #[.int .i64 st, .int .i64 br, .slice va bs.length vc]
          refine wpList_append_own _ rfl (.tmp 31) (.tmp 33) 28 rfl w.heap.size 24 m0 (.agg #[.int .i64 0, .int .i64 0, .slice none 0 0]) 3 40 Tryd.underlying28 hm hq0 hq1 hq2 rfl (by decide) (.slice none 0 0) 0 [] rfl (World.ownsRow_nil _ _ _ _) ⟨w5.heap.size, 0, none⟩ 1 1 [.int .i64 st, .int .i64 br, .slice va bs.length vc] rfl rfl
            (fun j q hq => by rw [← addr_add]; rw [bA.cell j]; simpa using hq) (by simp [Value.oneCell']) (by unfold maxLen; omega) (by omega) (by have := hB5.size; simp; omega) ?_
          intro v6 w6 ho6 hg6 _
          obtain ⟨G, c6, rfl⟩ := ownsRow_succ ho6
          have hb6 : Below w5.heap.size w5 w6 := (m1 w5 (.cells #[.int .i64 st, .int .i64 br, .slice va bs.length vc] 24)).grown hg6 (by simp) (fun j ej => by simp [Value.ownBlock] at ej)
          have hc6 := ho6.cells (g := G) rfl
          have hT : TwinIs w st br bs (.returned (.slice (some ⟨G, 0, none⟩) (0 + 1) c6)) w6 :=
            ⟨G, c6, .slice va bs.length vc, us, rfl, by rw [addr_add G 0]; exact hc6 0 _ rfl, by rw [addr_add G 1]; exact hc6 1 _ rfl, by rw [addr_add G 2]; exact hc6 2 _ rfl, mown_mono (mown_below hU5.1 hb6) hbu.size, ⟨hU5.2.1, fun i ks x hi hx => mown_mono (mown_below (hU5.2.2 i ks x hi hx) hb6) hbu.size⟩, mmore hB5 hb6⟩
          replace hT := Lib.hid hT
          clear hc6 hb6 hg6 ho6 bA hB5 b5 hU5 x0 x1 x2
          go_wp2_with fail
          go_roundw
          case rel => exact .inr ⟨by go_num, hT.out⟩
          case measure => simp [intOf]
    · replace hT := Lib.hid hT
      go_wp2_with fail
      go_ret
      exact hT.out
end Go.Proofs.YtfbpaomebfleiaaDoor
