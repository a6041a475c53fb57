/- A look: the attributes of all events of a position, as a contract. -/
import Derived.Test.YtfjnphiegoogoaaLk
import Derived.Test.YtfjnphiegoogoaaUna
import Derived.Deep.CutRange
import Derived.Deep.DeepCutAuto
namespace Go.Proofs.Ytfjnphiegoogoaa
open Go.ChangeShapes Go.WideShapes Go.ChangeAt Go.RowKit Go.Fl
set_option linter.unusedVariables false
set_option linter.unusedSimpArgs false

theorem attrP_lt {w : World} {E : Option Addr} {es : List Ev} (he : EvsAt w E es) (p a : Int) : (attrP es p a).2 < 18446744073709551616 := by
  unfold attrP
  split
  · decide
  · split
    · decide
    · rename_i e h
      split
      · exact nU_lt _
      · split
        · decide
        · split
          · decide
          · rename_i v hv
            obtain ⟨b, off, _, hc⟩ := he (Nat.lt_of_le_of_lt (Nat.zero_le _) (List.getElem?_eq_some_iff.1 h).1)
            obtain ⟨_, _, _, _, _, hR⟩ := hc _ _ h
            exact clB_lt2 _ (hR.2.1 _ (List.mem_of_getElem? hv))
def attrsP (es : List Ev) (bs : List (List Int)) (pos a : Int) : List (Int × Nat) := (placesP bs pos).map fun z => attrP es z a
/-- a list of values is answered -/
def RIs (vs : List (Int × Nat)) (w : World) (e : Ending) (w' : World) : Prop := ∃ A, e = .returned (.slice A vs.length vs.length) ∧ RowV w' A vs.length vs ∧ Below w.heap.size w w'
theorem grown_cell {u w' : World} {row : Option Nat} {a : Addr} {v : Value} (hg : u.grownBy w' row) (h : u.cell? a = some v) (hne : some a.block ≠ row) : w'.cell? a = some v :=
  (World.cell?_of_block (hg.block a.block (mblock h) hne)).trans h

/-- block g holds the first k of these values, and room for all -/
def MadeTo (w : World) (g : Nat) (vs : List (Int × Nat)) (k : Nat) : Prop := ∃ cs : Array Value, Blk w g 25 cs ∧ cs.size = vs.length * 2 ∧ ∀ (i : Nat) (v : Int × Nat), i < k → vs[i]? = some v → cs[i * 2]? = some (.int .i64 v.1) ∧ cs[i * 2 + 1]? = some (.int .u64 (v.2 : Int))
theorem MadeTo.two {w : World} {g k : Nat} {vs : List (Int × Nat)} (h : MadeTo w g vs k) (hk : k < vs.length) :
    ∃ x y, w.cell? ⟨g, k * 2, none⟩ = some x ∧ w.cell? ⟨g, k * 2 + 1, none⟩ = some y ∧ w.frozen? ⟨g, k * 2, none⟩ = false ∧ w.frozen? ⟨g, k * 2 + 1, none⟩ = false := by
  obtain ⟨cs, hB, hs, _⟩ := h
  exact ⟨_, _, by rw [hB.cell, Array.getElem?_eq_getElem (by omega)], by rw [hB.cell, Array.getElem?_eq_getElem (by omega)], hB.free _, hB.free _⟩
theorem MadeTo.kept {w w' : World} {g k : Nat} {vs : List (Int × Nat)} (h : MadeTo w g vs k) (hb : Below w.heap.size w w') : MadeTo w' g vs k := by
  obtain ⟨cs, hB, hs, hc⟩ := h
  exact ⟨cs, hB.kept hb, hs, hc⟩
theorem MadeTo.step {w : World} {g k : Nat} {vs : List (Int × Nat)} {v : Int × Nat} (h : MadeTo w g vs k) (hv : vs[k]? = some v) :
    MadeTo ((w.setCell ⟨g, k * 2, none⟩ (.int .i64 v.1)).setCell ⟨g, k * 2 + 1, none⟩ (.int .u64 (v.2 : Int))) g vs (k + 1) := by
  obtain ⟨cs, hB, hs, hc⟩ := h
  have hk := (List.getElem?_eq_some_iff.1 hv).1
  refine ⟨_, (hB.put_ _ _).put_ _ _, by simp [hs], fun i u hi hu => ?_⟩
  by_cases e : i = k
  · subst e
    rw [hv] at hu
    injection hu with hu
    subst hu
    constructor
    · rw [Array.getElem?_setIfInBounds_ne (by omega), Array.getElem?_setIfInBounds_self_of_lt (by omega)]
    · rw [Array.getElem?_setIfInBounds_self_of_lt (by simp; omega)]
  · have := hc i u (by omega) hu
    constructor
    · rw [Array.getElem?_setIfInBounds_ne (by omega), Array.getElem?_setIfInBounds_ne (by omega)]; exact this.1
    · rw [Array.getElem?_setIfInBounds_ne (by omega), Array.getElem?_setIfInBounds_ne (by omega)]; exact this.2
theorem MadeTo.row {w : World} {g : Nat} {vs : List (Int × Nat)} (h : MadeTo w g vs vs.length) (hb : ∀ v ∈ vs, v.2 < 18446744073709551616) : RowV w (some ⟨g, 0, none⟩) vs.length vs := by
  obtain ⟨cs, hB, hs, hc⟩ := h
  refine ⟨rfl, hb, fun _ => ⟨g, 0, rfl, fun i k c hi => ?_⟩⟩
  have := hc i (k, c) (List.getElem?_eq_some_iff.1 hi).1 hi
  rw [Nat.zero_add]
  exact ⟨by rw [hB.cell]; exact this.1, by rw [hB.cell]; exact this.2⟩
theorem MadeTo.zero (w : World) (z : Array Value) (vs : List (Int × Nat)) : MadeTo (w.alloc (.cells (madeCells z (vs.length * 2)) 25)) w.heap.size vs 0 :=
  ⟨_, Blk.made w _ _, by rw [size_madeCells], fun i v hi => absurd hi (by omega)⟩

theorem grown_drew {w w1 : World} (h : Below w.drew.heap.size w.drew w1) : w.grownBy w1 none := ⟨h.os, h.tape, h.output, h.size, fun i hi _ => h.block i hi⟩
def AtsR (u w : World) (g : Nat) (vs : List (Int × Nat)) (k : Nat) (wr : World) : Prop := MadeTo wr g vs k ∧ u.grownBy wr (some g) ∧ Below w.heap.size w wr

set_option maxHeartbeats 4000000 in
set_option maxRecDepth 100000 in
theorem attributes_any (E B : Option Addr) (ce cb : Nat) (cur : Int) (es : List Ev) (bs : List (List Int)) (pos a : Int) (w : World) (he : EvsAt w E es) (hb : KindsAt w B bs) (hl : es.length ≤ 9223372036854775807) (hl2 : ∀ e ∈ es, e.2.2.length ≤ 9223372036854775807) (hlb : bs.length ≤ 9223372036854775807) (hr : (placesP bs pos).length * 16 ≤ 281474976710656) :
    Calls Try.prog 82 #[lookV E B es.length ce bs.length cb cur, .int .i64 pos, .int .i64 a] w (RIs (attrsP es bs pos a) w) := by
  have hvl : (attrsP es bs pos a).length = (placesP bs pos).length := by unfold attrsP; rw [List.length_map]
  have hbits : ∀ v ∈ attrsP es bs pos a, v.2 < 18446744073709551616 := by
    intro v hv
    unfold attrsP at hv
    obtain ⟨z, _, rfl⟩ := List.mem_map.1 hv
    exact attrP_lt he z a
  have hvs : ∀ k z, (placesP bs pos)[k]? = some z → (attrsP es bs pos a)[k]? = some (attrP es z a) := fun k z h => by unfold attrsP; rw [List.getElem?_map, h]; rfl
  generalize attrsP es bs pos a = vs at *
  have P := Lib.hid (places_any E B es.length ce cb cur bs pos (w.alloc (lookO E B es.length ce bs.length cb cur)) (hb.later (m1 w _)) hlb)
  generalize placesP bs pos = ps at *
  obtain ⟨i0, hi, hz0, hz1, hz2⟩ := info_parts infoV
  have hmk : ∀ w, (Instr.makeSlice 47 (.int .i64 (ps.length : Int)) (.int .i64 (ps.length : Int))).run Try.prog w = .ok (.slice (some ⟨w.heap.size, 0, none⟩) ps.length ps.length) (w.alloc (.cells (madeCells #[.int .i64 0, .int .u64 0] (vs.length * 2)) 25)) := fun w => by
    have := run_make (P := Try.prog) w 47 25 i0 _ Try.underlying47 hi hz0 .i64 .i64 (ps.length : Int) (ps.length : Int) (by omega) (by omega) (by rw [hz2]; omega) (by omega)
    rw [hz1, Int.toNat_natCast] at this
    rw [this, hvl]
    rfl
  have hu := m1 w (lookO E B es.length ce bs.length cb cur)
  have c0 : (w.alloc (lookO E B es.length ce bs.length cb cur)).cell? ⟨w.heap.size, 0, none⟩ = some (.slice E es.length ce) := by simp [go_sem]
  have c1 : (w.alloc (lookO E B es.length ce bs.length cb cur)).cell? ⟨w.heap.size, 1, none⟩ = some (.slice B bs.length cb) := by simp [go_sem]
  have c2 : (w.alloc (lookO E B es.length ce bs.length cb cur)).cell? ⟨w.heap.size, 2, none⟩ = some (.int .i64 cur) := by simp [go_sem]
  replace hu := Lib.hid hu
  replace hbits := Lib.hid hbits
  replace hvl := Lib.hid hvl
  replace hvs := Lib.hid hvs
  replace hz1 := Lib.hid hz1
  replace hz2 := Lib.hid hz2
  replace hz0 := Lib.hid hz0
  replace hi := Lib.hid hi
  go_enter Try.func82, Try.ntmps82
  go_wp2_with fail
  refine P.out.mono ?_; rintro e w1 ⟨A1, cap1, rfl, hI, hb1⟩
  replace c0 := cell_later hb1 c0
  replace c1 := cell_later hb1 c1
  replace c2 := cell_later hb1 c2
  have hB := Lib.hid (mmore hu.out hb1)
  replace hI := Lib.hid hI
  clear P hu hb1
  go_upto_region 3 with (fail)
  have M0 := MadeTo.zero w1 #[.int .i64 0, .int .u64 0] vs
  have hu1 := m1 w1 (.cells (madeCells #[.int .i64 0, .int .u64 0] (vs.length * 2)) 25)
  have hlt := Lib.hid (show w.heap.size < w1.heap.size from mblock c0)
  replace c0 := cell_later hu1 c0
  replace c1 := cell_later hu1 c1
  replace c2 := cell_later hu1 c2
  have hJ : ∀ k z, ps[k]? = some z → ∃ b off, A1 = some ⟨b, off, none⟩ ∧ b < w1.heap.size ∧ (w1.alloc (.cells (madeCells #[.int .i64 0, .int .u64 0] (vs.length * 2)) 25)).cell? ⟨b, off + k, none⟩ = some (.int .i64 z) := fun k z hk => by
    obtain ⟨b, off, e, hc⟩ := hI.out (Nat.lt_of_le_of_lt (Nat.zero_le _) (List.getElem?_eq_some_iff.1 hk).1)
    exact ⟨b, off, e, mblock (hc k z hk), cell_later hu1 (hc k z hk)⟩
  replace hJ := Lib.hid hJ
  clear hI
  replace hB := Lib.hid (mmore hB.out hu1)
  clear hu1 hmk
  generalize w1.heap.size = g at *
  generalize w1.alloc (.cells (madeCells #[.int .i64 0, .int .u64 0] (vs.length * 2)) 25) = u at *
  have R0 := Lib.hid (And.intro M0 (And.intro (World.grownBy.refl u (some g)) hB.out))
  clear M0 hB
  replace he := Lib.hid he
  replace hb := Lib.hid hb
  go_wp2_with fail
  go_loopw [18] (fun i wr => ∃ k : Nat, k ≤ ps.length ∧ i = .int .i64 (k : Int) ∧ AtsR u w g vs k wr) (fun i _ => ps.length - (intOf i).toNat)
  case atStart => exact ⟨0, Nat.zero_le _, rfl, R0.out⟩
  case round =>
    obtain ⟨k, hk, rfl, hM, hG, hW⟩ := hrel
    clear R0
    by_cases hkl : k < ps.length
    · obtain ⟨b1, off1, e2, hbg, q0⟩ := hJ.out k _ (List.getElem?_eq_getElem hkl)
      have hvk := Lib.hid (hvs.out k _ (List.getElem?_eq_getElem hkl))
      subst e2
      generalize ps[k] = z at *
      have hne : (some w.heap.size) ≠ some g := by have := hlt.out; intro e; injection e; omega
      have c0 := grown_cell hG c0 hne
      have c1 := grown_cell hG c1 hne
      have c2 := grown_cell hG c2 hne
      have q0 := grown_cell hG q0 (show some b1 ≠ some g by intro e; injection e; omega)
      have heR := Lib.hid (attribute_any E B ce bs.length cb cur es z a wr.drew (he.out.later hW.drew) hl hl2)
      have hkv : k < vs.length := by rw [hvl.out]; exact hkl
      replace hM := Lib.hid (show MadeTo wr.drew g vs k from hM)
      replace hG := Lib.hid hG
      replace hW := Lib.hid hW
      replace hne := Lib.hid hne
      replace hkv := Lib.hid hkv
      generalize attrP es z a = v at *
      obtain ⟨vk, vb⟩ := v
      have i1 : (0 : Int) ≤ (k : Int) := by omega
      have i2 : (k : Int) < (ps.length : Int) := by omega
      go_wp2_with fail
      go_region_law (go_simp; go_at_call 78; refine heR.out.mono ?_; rintro e w2 ⟨rfl, hb1⟩; have hM2 := hM.out.kept hb1; obtain ⟨x0, y0, z0, z1, z2, z3⟩ := hM2.two hkv.out)
      all_goals have hM4 := hM2.step hvk.out
      all_goals have hG4 := mgrown (mgrown (mgrown hG.out (grown_drew hb1) (fun k h => by cases h)) (mset w2 ⟨g, k * 2, none⟩ (.int .i64 vk)) (fun k h => .inl (by simpa using h))) (mset _ ⟨g, k * 2 + 1, none⟩ (.int .u64 (vb : Int))) (fun k h => .inl (by simpa using h))
      all_goals have hW4 := ((mmore hW.out.drew hb1).setCell (p := ⟨g, k * 2, none⟩) (by have := hlt.out; show w.heap.size ≤ g; omega) (.int .i64 vk)).setCell (p := ⟨g, k * 2 + 1, none⟩) (by have := hlt.out; show w.heap.size ≤ g; omega) (.int .u64 (vb : Int))
      all_goals replace hM4 := Lib.hid hM4
      all_goals replace hG4 := Lib.hid hG4
      all_goals replace hW4 := Lib.hid hW4
      all_goals clear hM2 hM hG hW hvk heR c0 c1 c2 q0 z0 z1 z2 z3 hb1
      all_goals simp only at hM4
      all_goals generalize (w2.setCell ⟨g, k * 2, none⟩ (.int .i64 vk)).setCell ⟨g, k * 2 + 1, none⟩ (.int .u64 (vb : Int)) = w4 at *
      all_goals go_wp2
      all_goals go_roundw
      all_goals first | exact ⟨k + 1, by omega, by go_num, hM4.out, hG4.out, hW4.out⟩ | (simp [intOf]; omega)
    · obtain rfl : k = ps.length := by omega
      rw [← hvl.out] at hM
      have hR := Lib.hid (hM.row hbits.out)
      rw [hvl.out] at hR
      replace hW := Lib.hid hW
      clear hM hG c0 c1 c2
      go_wp2
      go_ret
      exact ⟨_, by rw [hvl.out]; rfl, by rw [hvl.out]; exact hR.out, hW.out⟩
end Go.Proofs.Ytfjnphiegoogoaa
