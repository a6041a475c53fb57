/- LkB, Kinds, ValB, LkC -/
import Derived.Test.YtfjnphiegoogoaaZ03
import Derived.Test.YtfjnphiegoogoaaZ05
import Derived.Deep.CutRange
import Derived.Deep.DeepCutAuto
import Derived.Deep.RegionHeld3
import Derived.Deep.RegionWith
import Derived.Deep.QuietTactic
import Derived.BigQuiet
import Derived.Test.YtfjnphiegoogoaaZ02
/- LkB -/
namespace Go.Proofs.Ytfjnphiegoogoaa
open Go.ChangeShapes Go.WideShapes Go.ChangeAt Go.RowKit Go.Fl
set_option linter.unusedVariables false
set_option linter.unusedSimpArgs false

theorem attrP_lt {w : World} {E : Option Addr} {es : List Ev} (he : EvsAt w E es) (p a : Int) : (attrP es p a).2 < 18446744073709551616 := by
  unfold attrP
  split
  · decide
  · split
    · decide
    · rename_i e h
      split
      · exact nU_lt _
      · split
        · decide
        · split
          · decide
          · rename_i v hv
            obtain ⟨b, off, _, hc⟩ := he (Nat.lt_of_le_of_lt (Nat.zero_le _) (List.getElem?_eq_some_iff.1 h).1)
            obtain ⟨_, _, _, _, _, hR⟩ := hc _ _ h
            exact clB_lt2 _ (hR.2.1 _ (List.mem_of_getElem? hv))
def attrsP (es : List Ev) (bs : List (List Int)) (pos a : Int) : List (Int × Nat) := (placesP bs pos).map fun z => attrP es z a
/-- a list of values is answered -/
def RIs (vs : List (Int × Nat)) (w : World) (e : Ending) (w' : World) : Prop := ∃ A, e = .returned (.slice A vs.length vs.length) ∧ RowV w' A vs.length vs ∧ Below w.heap.size w w'
theorem grown_cell {u w' : World} {row : Option Nat} {a : Addr} {v : Value} (hg : u.grownBy w' row) (h : u.cell? a = some v) (hne : some a.block ≠ row) : w'.cell? a = some v :=
  (World.cell?_of_block (hg.block a.block (mblock h) hne)).trans h

/-- block g holds the first k of these values, and room for all -/
def MadeTo (w : World) (g : Nat) (vs : List (Int × Nat)) (k : Nat) : Prop := ∃ cs : Array Value, Blk w g 25 cs ∧ cs.size = vs.length * 2 ∧ ∀ (i : Nat) (v : Int × Nat), i < k → vs[i]? = some v → cs[i * 2]? = some (.int .i64 v.1) ∧ cs[i * 2 + 1]? = some (.int .u64 (v.2 : Int))
theorem MadeTo.two {w : World} {g k : Nat} {vs : List (Int × Nat)} (h : MadeTo w g vs k) (hk : k < vs.length) :
    ∃ x y, w.cell? ⟨g, k * 2, none⟩ = some x ∧ w.cell? ⟨g, k * 2 + 1, none⟩ = some y ∧ w.frozen? ⟨g, k * 2, none⟩ = false ∧ w.frozen? ⟨g, k * 2 + 1, none⟩ = false := by
  obtain ⟨cs, hB, hs, _⟩ := h
  exact ⟨_, _, by rw [hB.cell, Array.getElem?_eq_getElem (by omega)], by rw [hB.cell, Array.getElem?_eq_getElem (by omega)], hB.free _, hB.free _⟩
theorem MadeTo.kept {w w' : World} {g k : Nat} {vs : List (Int × Nat)} (h : MadeTo w g vs k) (hb : Below w.heap.size w w') : MadeTo w' g vs k := by
  obtain ⟨cs, hB, hs, hc⟩ := h
  exact ⟨cs, hB.kept hb, hs, hc⟩
theorem MadeTo.step {w : World} {g k : Nat} {vs : List (Int × Nat)} {v : Int × Nat} (h : MadeTo w g vs k) (hv : vs[k]? = some v) :
    MadeTo ((w.setCell ⟨g, k * 2, none⟩ (.int .i64 v.1)).setCell ⟨g, k * 2 + 1, none⟩ (.int .u64 (v.2 : Int))) g vs (k + 1) := by
  obtain ⟨cs, hB, hs, hc⟩ := h
  have hk := (List.getElem?_eq_some_iff.1 hv).1
  refine ⟨_, (hB.put_ _ _).put_ _ _, by simp [hs], fun i u hi hu => ?_⟩
  by_cases e : i = k
  · subst e
    rw [hv] at hu
    injection hu with hu
    subst hu
    constructor
    · rw [Array.getElem?_setIfInBounds_ne (by omega), Array.getElem?_setIfInBounds_self_of_lt (by omega)]
    · rw [Array.getElem?_setIfInBounds_self_of_lt (by simp; omega)]
  · have := hc i u (by omega) hu
    constructor
    · rw [Array.getElem?_setIfInBounds_ne (by omega), Array.getElem?_setIfInBounds_ne (by omega)]; exact this.1
    · rw [Array.getElem?_setIfInBounds_ne (by omega), Array.getElem?_setIfInBounds_ne (by omega)]; exact this.2
theorem MadeTo.row {w : World} {g : Nat} {vs : List (Int × Nat)} (h : MadeTo w g vs vs.length) (hb : ∀ v ∈ vs, v.2 < 18446744073709551616) : RowV w (some ⟨g, 0, none⟩) vs.length vs := by
  obtain ⟨cs, hB, hs, hc⟩ := h
  refine ⟨rfl, hb, fun _ => ⟨g, 0, rfl, fun i k c hi => ?_⟩⟩
  have := hc i (k, c) (List.getElem?_eq_some_iff.1 hi).1 hi
  rw [Nat.zero_add]
  exact ⟨by rw [hB.cell]; exact this.1, by rw [hB.cell]; exact this.2⟩
theorem MadeTo.zero (w : World) (z : Array Value) (vs : List (Int × Nat)) : MadeTo (w.alloc (.cells (madeCells z (vs.length * 2)) 25)) w.heap.size vs 0 :=
  ⟨_, Blk.made w _ _, by rw [size_madeCells], fun i v hi => absurd hi (by omega)⟩

theorem grown_drew {w w1 : World} (h : Below w.drew.heap.size w.drew w1) : w.grownBy w1 none := ⟨h.os, h.tape, h.output, h.size, fun i hi _ => h.block i hi⟩
def AtsR (u w : World) (g : Nat) (vs : List (Int × Nat)) (k : Nat) (wr : World) : Prop := MadeTo wr g vs k ∧ u.grownBy wr (some g) ∧ Below w.heap.size w wr

set_option maxHeartbeats 4000000 in
set_option maxRecDepth 100000 in
theorem attributes_any (E B : Option Addr) (ce cb : Nat) (cur : Int) (es : List Ev) (bs : List (List Int)) (pos a : Int) (w : World) (he : EvsAt w E es) (hb : KindsAt w B bs) (hl : es.length ≤ 9223372036854775807) (hl2 : ∀ e ∈ es, e.2.2.length ≤ 9223372036854775807) (hlb : bs.length ≤ 9223372036854775807) (hr : (placesP bs pos).length * 16 ≤ 281474976710656) :
    Calls Try.prog 82 #[lookV E B es.length ce bs.length cb cur, .int .i64 pos, .int .i64 a] w (RIs (attrsP es bs pos a) w) := by
  have hvl : (attrsP es bs pos a).length = (placesP bs pos).length := by unfold attrsP; rw [List.length_map]
  have hbits : ∀ v ∈ attrsP es bs pos a, v.2 < 18446744073709551616 := by
    intro v hv
    unfold attrsP at hv
    obtain ⟨z, _, rfl⟩ := List.mem_map.1 hv
    exact attrP_lt he z a
  have hvs : ∀ k z, (placesP bs pos)[k]? = some z → (attrsP es bs pos a)[k]? = some (attrP es z a) := fun k z h => by unfold attrsP; rw [List.getElem?_map, h]; rfl
  generalize attrsP es bs pos a = vs at *
  have P := Lib.hid (places_any E B es.length ce cb cur bs pos (w.alloc (lookO E B es.length ce bs.length cb cur)) (hb.later (m1 w _)) hlb)
  generalize placesP bs pos = ps at *
  obtain ⟨i0, hi, hz0, hz1, hz2⟩ := info_parts infoV
  have hmk : ∀ w, (Instr.makeSlice 47 (.int .i64 (ps.length : Int)) (.int .i64 (ps.length : Int))).run Try.prog w = .ok (.slice (some ⟨w.heap.size, 0, none⟩) ps.length ps.length) (w.alloc (.cells (madeCells #[.int .i64 0, .int .u64 0] (vs.length * 2)) 25)) := fun w => by
    have := run_make (P := Try.prog) w 47 25 i0 _ Try.underlying47 hi hz0 .i64 .i64 (ps.length : Int) (ps.length : Int) (by omega) (by omega) (by rw [hz2]; omega) (by omega)
    rw [hz1, Int.toNat_natCast] at this
    rw [this, hvl]
    rfl
  have hu := m1 w (lookO E B es.length ce bs.length cb cur)
  have c0 : (w.alloc (lookO E B es.length ce bs.length cb cur)).cell? ⟨w.heap.size, 0, none⟩ = some (.slice E es.length ce) := by simp [go_sem]
  have c1 : (w.alloc (lookO E B es.length ce bs.length cb cur)).cell? ⟨w.heap.size, 1, none⟩ = some (.slice B bs.length cb) := by simp [go_sem]
  have c2 : (w.alloc (lookO E B es.length ce bs.length cb cur)).cell? ⟨w.heap.size, 2, none⟩ = some (.int .i64 cur) := by simp [go_sem]
  replace hu := Lib.hid hu
  replace hbits := Lib.hid hbits
  replace hvl := Lib.hid hvl
  replace hvs := Lib.hid hvs
  replace hz1 := Lib.hid hz1
  replace hz2 := Lib.hid hz2
  replace hz0 := Lib.hid hz0
  replace hi := Lib.hid hi
  go_enter Try.func82, Try.ntmps82
  go_wp2_with fail
  refine P.out.mono ?_; rintro e w1 ⟨A1, cap1, rfl, hI, hb1⟩
  replace c0 := cell_later hb1 c0
  replace c1 := cell_later hb1 c1
  replace c2 := cell_later hb1 c2
  have hB := Lib.hid (mmore hu.out hb1)
  replace hI := Lib.hid hI
  clear P hu hb1
  go_upto_region 3 with (fail)
  have M0 := MadeTo.zero w1 #[.int .i64 0, .int .u64 0] vs
  have hu1 := m1 w1 (.cells (madeCells #[.int .i64 0, .int .u64 0] (vs.length * 2)) 25)
  have hlt := Lib.hid (show w.heap.size < w1.heap.size from mblock c0)
  replace c0 := cell_later hu1 c0
  replace c1 := cell_later hu1 c1
  replace c2 := cell_later hu1 c2
  have hJ : ∀ k z, ps[k]? = some z → ∃ b off, A1 = some ⟨b, off, none⟩ ∧ b < w1.heap.size ∧ (w1.alloc (.cells (madeCells #[.int .i64 0, .int .u64 0] (vs.length * 2)) 25)).cell? ⟨b, off + k, none⟩ = some (.int .i64 z) := fun k z hk => by
    obtain ⟨b, off, e, hc⟩ := hI.out (Nat.lt_of_le_of_lt (Nat.zero_le _) (List.getElem?_eq_some_iff.1 hk).1)
    exact ⟨b, off, e, mblock (hc k z hk), cell_later hu1 (hc k z hk)⟩
  replace hJ := Lib.hid hJ
  clear hI
  replace hB := Lib.hid (mmore hB.out hu1)
  clear hu1 hmk
  generalize w1.heap.size = g at *
  generalize w1.alloc (.cells (madeCells #[.int .i64 0, .int .u64 0] (vs.length * 2)) 25) = u at *
  have R0 := Lib.hid (And.intro M0 (And.intro (World.grownBy.refl u (some g)) hB.out))
  clear M0 hB
  replace he := Lib.hid he
  replace hb := Lib.hid hb
  go_wp2_with fail
  go_loopw [18] (fun i wr => ∃ k : Nat, k ≤ ps.length ∧ i = .int .i64 (k : Int) ∧ AtsR u w g vs k wr) (fun i _ => ps.length - (intOf i).toNat)
  case atStart => exact ⟨0, Nat.zero_le _, rfl, R0.out⟩
  case round =>
    obtain ⟨k, hk, rfl, hM, hG, hW⟩ := hrel
    clear R0
    by_cases hkl : k < ps.length
    · obtain ⟨b1, off1, e2, hbg, q0⟩ := hJ.out k _ (List.getElem?_eq_getElem hkl)
      have hvk := Lib.hid (hvs.out k _ (List.getElem?_eq_getElem hkl))
      subst e2
      generalize ps[k] = z at *
      have hne : (some w.heap.size) ≠ some g := by have := hlt.out; intro e; injection e; omega
      have c0 := grown_cell hG c0 hne
      have c1 := grown_cell hG c1 hne
      have c2 := grown_cell hG c2 hne
      have q0 := grown_cell hG q0 (show some b1 ≠ some g by intro e; injection e; omega)
      have heR := Lib.hid (attribute_any E B ce bs.length cb cur es z a wr.drew (he.out.later hW.drew) hl hl2)
      have hkv : k < vs.length := by rw [hvl.out]; exact hkl
      replace hM := Lib.hid (show MadeTo wr.drew g vs k from hM)
      replace hG := Lib.hid hG
      replace hW := Lib.hid hW
      replace hne := Lib.hid hne
      replace hkv := Lib.hid hkv
      generalize attrP es z a = v at *
      obtain ⟨vk, vb⟩ := v
      have i1 : (0 : Int) ≤ (k : Int) := by omega
      have i2 : (k : Int) < (ps.length : Int) := by omega
      go_wp2_with fail
      go_region_law (go_simp; go_at_call 78; refine heR.out.mono ?_; rintro e w2 ⟨rfl, hb1⟩; have hM2 := hM.out.kept hb1; obtain ⟨x0, y0, z0, z1, z2, z3⟩ := hM2.two hkv.out)
      all_goals have hM4 := hM2.step hvk.out
      all_goals have hG4 := mgrown (mgrown (mgrown hG.out (grown_drew hb1) (fun k h => by cases h)) (mset w2 ⟨g, k * 2, none⟩ (.int .i64 vk)) (fun k h => .inl (by simpa using h))) (mset _ ⟨g, k * 2 + 1, none⟩ (.int .u64 (vb : Int))) (fun k h => .inl (by simpa using h))
      all_goals have hW4 := ((mmore hW.out.drew hb1).setCell (p := ⟨g, k * 2, none⟩) (by have := hlt.out; show w.heap.size ≤ g; omega) (.int .i64 vk)).setCell (p := ⟨g, k * 2 + 1, none⟩) (by have := hlt.out; show w.heap.size ≤ g; omega) (.int .u64 (vb : Int))
      all_goals replace hM4 := Lib.hid hM4
      all_goals replace hG4 := Lib.hid hG4
      all_goals replace hW4 := Lib.hid hW4
      all_goals clear hM2 hM hG hW hvk heR c0 c1 c2 q0 z0 z1 z2 z3 hb1
      all_goals simp only at hM4
      all_goals generalize (w2.setCell ⟨g, k * 2, none⟩ (.int .i64 vk)).setCell ⟨g, k * 2 + 1, none⟩ (.int .u64 (vb : Int)) = w4 at *
      all_goals go_wp2
      all_goals go_roundw
      all_goals first | exact ⟨k + 1, by omega, by go_num, hM4.out, hG4.out, hW4.out⟩ | (simp [intOf]; omega)
    · obtain rfl : k = ps.length := by omega
      rw [← hvl.out] at hM
      have hR := Lib.hid (hM.row hbits.out)
      rw [hvl.out] at hR
      replace hW := Lib.hid hW
      clear hM hG c0 c1 c2
      go_wp2
      go_ret
      exact ⟨_, by rw [hvl.out]; rfl, by rw [hvl.out]; exact hR.out, hW.out⟩
end Go.Proofs.Ytfjnphiegoogoaa

/- Kinds -/
namespace Go.Proofs.Ytfjnphiegoogoaa
open Go.ChangeShapes Go.WideShapes Go.ChangeAt Go.RowKit Go.Fl

theorem cn_nanv : cn 9221120237041090560 = 9221120237041090560 := by decide
theorem cn_res (o : Option Nat) : cn (res o) = res o := by
  unfold res; cases o with
  | none => exact cn_nanv
  | some r => exact cn_cn r

/-- a value that counts as itself -/
def isClean (v : Int × Nat) : Prop := clK v.1 v.2 = v.1 ∧ clB v.1 v.2 = v.2
theorem clean_zero : isClean (0, 0) := by unfold isClean; decide
theorem clean_bool (n : Nat) (h : n ≤ 1) : isClean (2, n) := by
  unfold isClean clK clB
  constructor
  · show (if (2 : Int) = 1 ∨ _ then _ else _) = _; rw [if_pos (by omega)]
  · show (if (2 : Int) = 4 then _ else _) = _; rw [if_neg (by omega), if_pos (by omega)]
theorem clean_int (n : Nat) : isClean (1, n) := by
  unfold isClean clK clB
  constructor
  · show (if (1 : Int) = 1 ∨ _ then _ else _) = _; rw [if_pos (by omega)]
  · show (if (1 : Int) = 4 then _ else _) = _; rw [if_neg (by omega), if_pos (by omega)]
theorem clean_real (n : Nat) (h : cn n = n) : isClean (4, n) := by
  unfold isClean clK clB
  constructor
  · show (if (4 : Int) = 1 ∨ _ then _ else _) = _; rw [if_pos (by omega)]
  · show (if (4 : Int) = 4 then _ else _) = _; rw [if_pos rfl, h]
theorem clean_pair (z : Option Int) : isClean (pairI z) := by
  cases z with
  | none => exact clean_zero
  | some z => exact clean_int _
theorem b2n_le (x : Bool) : b2n x ≤ 1 := by cases x <;> decide
theorem ofI_clean (b : Nat) : cn (ofI (wrap64 (b : Int))) = ofI (wrap64 (b : Int)) := cn_ofI _ (by have := w64 b; unfold I64 at this; omega)
theorem ansR_clean (op : Int) (b c : Nat) : cn (ansR op b c) = ansR op b c := by
  unfold ansR; (repeat' split) <;> exact cn_res _

theorem one_clean (op k : Int) (b : Nat) : isClean (appOne op k b) := by
  unfold appOne
  split
  · refine clean_bool _ ?_; split <;> omega
  split
  · exact clean_pair _
  split
  · exact clean_real _ (cn_cn _)
  split
  · exact clean_real _ (ofI_clean b)
  split
  · exact clean_bool _ (b2n_le _)
  · exact clean_zero

theorem bo2_clean (t : Nat) (ht : t ≤ 1) (k : Int) (b : Nat) (l : Int) (c : Nat) (h : k = 2 → b ≤ 1) : isClean (bo2 t k b l c) := by
  unfold bo2
  split
  · exact clean_bool t ht
  split
  · exact clean_zero
  · obtain rfl : k = 2 := by omega
    exact clean_bool b (h rfl)

theorem two_clean (op k : Int) (b : Nat) (l : Int) (c : Nat) (h : k = 2 → b ≤ 1) : isClean (appTwo op k b l c) := by
  unfold appTwo
  split
  · exact bo2_clean 0 (by omega) k b l c h
  split
  · exact bo2_clean 1 (by omega) k b l c h
  split
  · exact clean_zero
  split
  · exact clean_bool _ (b2n_le _)
  split
  · exact clean_pair _
  · exact clean_real _ (ansR_clean op b c)

theorem cl_bool (k : Int) (b : Nat) (h : clK k b = 2) : clB k b ≤ 1 := by
  have := cl_tri k b h
  have h2 := this.2
  rw [this.1]
  unfold tvB
  split <;> omega

theorem app_clean (op : Int) (vs : List (Int × Nat)) : isClean (appP op vs) := by
  unfold appP
  split
  · exact one_clean _ _ _
  · exact two_clean _ _ _ _ _ (cl_bool _ _)
  · exact clean_zero

theorem pair_kind (z : Option Int) : (pairI z).1 = 0 ∨ (pairI z).1 = 1 := by cases z with
  | none => exact .inl rfl
  | some z => exact .inr rfl

theorem one_kind (op k : Int) (b : Nat) : (appOne op k b).1 = 0 ∨ (appOne op k b).1 = r1P op k := by
  unfold appOne
  by_cases c1 : op = 15 ∧ k = 2
  · rw [if_pos c1]; right; obtain ⟨rfl, rfl⟩ := c1; rfl
  rw [if_neg c1]
  by_cases c2 : op = 6 ∧ k = 1
  · rw [if_pos c2]; obtain ⟨rfl, rfl⟩ := c2; exact pair_kind _
  rw [if_neg c2]
  by_cases c3 : op = 6 ∧ k = 4
  · rw [if_pos c3]; right; obtain ⟨rfl, rfl⟩ := c3; rfl
  rw [if_neg c3]
  by_cases c4 : op = 16 ∧ k = 1
  · rw [if_pos c4]; right; obtain ⟨rfl, rfl⟩ := c4; rfl
  rw [if_neg c4]
  by_cases c5 : op = 17 ∧ k = 4
  · rw [if_pos c5]; right; obtain ⟨rfl, rfl⟩ := c5; rfl
  rw [if_neg c5]
  exact .inl rfl

theorem r2P_vals (op k : Int) : r2P op k = 0 ∨ r2P op k = 2 ∨ (r2P op k = 1 ∧ k = 1) ∨ (r2P op k = 4 ∧ k = 4) := by
  unfold r2P
  split
  · omega
  · split <;> omega

theorem two_kind (op k : Int) (b : Nat) (l : Int) (c : Nat) (h13 : op ≠ 13) (h14 : op ≠ 14) : (appTwo op k b l c).1 = 0 ∨ (appTwo op k b l c).1 = (if k = l then r2P op k else 0) := by
  unfold appTwo
  rw [if_neg h13, if_neg h14]
  by_cases c1 : k ≠ l ∨ r2P op k = 0
  · rw [if_pos c1]; exact .inl rfl
  rw [if_neg c1, if_pos (show k = l by omega)]
  have hv := r2P_vals op k
  by_cases c2 : r2P op k = 2
  · rw [if_pos c2]; right; exact c2.symm
  rw [if_neg c2]
  by_cases c3 : k = 1
  · rw [if_pos c3]
    have : r2P op k = 1 := by omega
    rw [this]
    exact pair_kind _
  · rw [if_neg c3]
    right
    have : r2P op k = 4 := by omega
    rw [this]

theorem app_kind (op : Int) (vs : List (Int × Nat)) (h : vs.length = 2 → op ≠ 13 ∧ op ≠ 14) : (appP op vs).1 = 0 ∨ (appP op vs).1 = resP op (vs.map fun v => clK v.1 v.2) := by
  match vs, h with
  | [], _ => exact .inl rfl
  | [a], _ => exact one_kind op _ _
  | [a, b], h => exact two_kind op _ _ _ _ (h rfl).1 (h rfl).2
  | a :: b :: c :: ds, _ => exact .inl rfl

theorem app_logic (op : Int) (vs : List (Int × Nat)) (hl : vs.length = 2) (h : op = 13 ∨ op = 14) : (appP op vs).1 = 0 ∨ (appP op vs).1 = 2 := by
  match vs, hl with
  | [a, b], _ =>
    show (appTwo _ _ _ _ _).1 = 0 ∨ (appTwo _ _ _ _ _).1 = 2
    have hb : ∀ t k b l c, (bo2 t k b l c).1 = 0 ∨ (bo2 t k b l c).1 = 2 := by
      intro t k b l c
      unfold bo2
      split
      · exact .inr rfl
      split
      · exact .inl rfl
      · right; show k = 2; omega
    unfold appTwo
    rcases h with rfl | rfl
    · rw [if_pos rfl]; exact hb _ _ _ _ _
    · rw [if_neg (by decide), if_pos rfl]; exact hb _ _ _ _ _

theorem resF_lt (op : BinOp) (a b : Nat) (w : World) : res (floatBits op .f64 a b) < 18446744073709551616 := by
  rw [← cn_fres op a b w]
  exact cn_lt (fres_lt op a b w)
theorem ansR_lt (op : Int) (a b : Nat) (w : World) : ansR op a b < 18446744073709551616 := by
  unfold ansR
  split
  · exact resF_lt .add a b w
  split
  · exact resF_lt .sub a b w
  split
  · exact resF_lt .mul a b w
  · exact resF_lt .quo a b w
theorem b2n_lt (x : Bool) : b2n x < 18446744073709551616 := by cases x <;> decide

theorem app_lt (op : Int) (vs : List (Int × Nat)) (w : World) (h : ∀ v ∈ vs, v.2 < 18446744073709551616) : (appP op vs).2 < 18446744073709551616 := by
  match vs, h with
  | [], _ => exact (by decide : (0 : Nat) < 18446744073709551616)
  | [a], h =>
    have ha := clB_lt2 a.1 (h a (by simp))
    show (appOne op _ _).2 < _
    generalize clK a.1 a.2 = k at *
    generalize clB a.1 a.2 = b at *
    unfold appOne
    split
    · show (if b = 0 then 1 else 0 : Nat) < _; split <;> omega
    split
    · exact resN_lt _
    split
    · exact cn_lt (flip_lt b ha)
    split
    · have := w64 b
      unfold I64 at this
      exact ofI_lt _ (by omega)
    split
    · exact b2n_lt _
    · exact (by decide : (0 : Nat) < 18446744073709551616)
  | [a, c], h =>
    have ha := clB_lt2 a.1 (h a (by simp))
    show (appTwo op _ _ _ _).2 < _
    generalize clK a.1 a.2 = k at *
    generalize clB a.1 a.2 = b at *
    generalize clK c.1 c.2 = l at *
    generalize clB c.1 c.2 = d at *
    have hb2 : ∀ t, t ≤ 1 → (bo2 t k b l d).2 < 18446744073709551616 := by
      intro t ht
      unfold bo2
      split
      · show t < _; omega
      split
      · exact (by decide : (0 : Nat) < 18446744073709551616)
      · exact ha
    unfold appTwo
    split
    · exact hb2 0 (by omega)
    split
    · exact hb2 1 (by omega)
    split
    · exact (by decide : (0 : Nat) < 18446744073709551616)
    split
    · exact b2n_lt _
    split
    · exact resN_lt _
    · exact ansR_lt op b d w
  | a :: b :: c :: ds, _ => exact (by decide : (0 : Nat) < 18446744073709551616)
end Go.Proofs.Ytfjnphiegoogoaa

/- ValB -/
namespace Go.Proofs.Ytfjnphiegoogoaa
open Go.ChangeShapes Go.WideShapes Go.ChangeAt Go.RowKit Go.Fl

theorem compareI_any (x y : Int) (w : World) :
    Calls Try.prog 98 #[.int .i64 x, .int .i64 y] w fun e w' => e = .returned (.int .i64 (cmpP x y)) ∧ w = w' := by
  have hn : ∀ x : Int, (x != x) = false := fun x => by simp
  by_cases c : x < y
  · rw [show cmpP x y = -1 by unfold cmpP; rw [if_pos c]]
    go_enter Try.func98, Try.ntmps98
    go_wp2
    go_ret
    exact ⟨rfl, rfl⟩
  · by_cases d : y < x
    · rw [show cmpP x y = 1 by unfold cmpP; rw [if_neg c, if_pos d]]
      go_enter Try.func98, Try.ntmps98
      go_wp2
      go_ret
      exact ⟨rfl, rfl⟩
    · rw [show cmpP x y = 0 by unfold cmpP; rw [if_neg c, if_neg d]]
      go_enter Try.func98, Try.ntmps98
      go_wp2
      go_ret
      exact ⟨rfl, rfl⟩

theorem compareL_any (x y : Int) (w : World) :
    Calls Try.prog 99 #[.int .i64 x, .int .i64 y] w fun e w' => e = .returned (.int .i64 (cmpP x y)) ∧ w = w' := by
  have hn : ∀ x : Int, (x != x) = false := fun x => by simp
  by_cases c : x < y
  · rw [show cmpP x y = -1 by unfold cmpP; rw [if_pos c]]
    go_enter Try.func99, Try.ntmps99
    go_wp2
    go_ret
    exact ⟨rfl, rfl⟩
  · by_cases d : y < x
    · rw [show cmpP x y = 1 by unfold cmpP; rw [if_neg c, if_pos d]]
      go_enter Try.func99, Try.ntmps99
      go_wp2
      go_ret
      exact ⟨rfl, rfl⟩
    · rw [show cmpP x y = 0 by unfold cmpP; rw [if_neg c, if_neg d]]
      go_enter Try.func99, Try.ntmps99
      go_wp2
      go_ret
      exact ⟨rfl, rfl⟩

/-- two structs of two cells each, stored anew -/
theorem four_cells {w : World} {g : Nat} {u0 u1 u2 u3 : Value} (v0 v1 v2 v3 : Value) (h0 : w.cell? ⟨g, 0, none⟩ = some u0) (h1 : w.cell? ⟨g, 1, none⟩ = some u1) (h2 : w.cell? ⟨g + 1, 0, none⟩ = some u2) (h3 : w.cell? ⟨g + 1, 1, none⟩ = some u3) :
    ((((w.setCell ⟨g, 0, none⟩ v0).setCell ⟨g, 1, none⟩ v1).setCell ⟨g + 1, 0, none⟩ v2).setCell ⟨g + 1, 1, none⟩ v3).cell? ⟨g, 0, none⟩ = some v0 ∧
    ((((w.setCell ⟨g, 0, none⟩ v0).setCell ⟨g, 1, none⟩ v1).setCell ⟨g + 1, 0, none⟩ v2).setCell ⟨g + 1, 1, none⟩ v3).cell? ⟨g, 1, none⟩ = some v1 ∧
    ((((w.setCell ⟨g, 0, none⟩ v0).setCell ⟨g, 1, none⟩ v1).setCell ⟨g + 1, 0, none⟩ v2).setCell ⟨g + 1, 1, none⟩ v3).cell? ⟨g + 1, 0, none⟩ = some v2 ∧
    ((((w.setCell ⟨g, 0, none⟩ v0).setCell ⟨g, 1, none⟩ v1).setCell ⟨g + 1, 0, none⟩ v2).setCell ⟨g + 1, 1, none⟩ v3).cell? ⟨g + 1, 1, none⟩ = some v3 := by
  refine ⟨?_, ?_, ?_, ?_⟩ <;> simp [go_sem, h0, h1, h2, h3]

theorem keep5 {w0 w w1 : World} {a0 a1 a2 a3 : Addr} {v0 v1 v2 v3 : Value} (hb : Below w.heap.size w w1) (h : w.cell? a0 = some v0 ∧ w.cell? a1 = some v1 ∧ w.cell? a2 = some v2 ∧ w.cell? a3 = some v3 ∧ Below w0.heap.size w0 w) :
    w1.cell? a0 = some v0 ∧ w1.cell? a1 = some v1 ∧ w1.cell? a2 = some v2 ∧ w1.cell? a3 = some v3 ∧ Below w0.heap.size w0 w1 :=
  ⟨cell_later hb h.1, cell_later hb h.2.1, cell_later hb h.2.2.1, cell_later hb h.2.2.2.1, h.2.2.2.2.trans (hb.mono h.2.2.2.2.size)⟩

theorem clB_lt (k : Int) {b : Nat} (hb : b < 18446744073709551616) : clB k b < 18446744073709551616 := by
  have := cn_lt hb
  unfold clB; (repeat' split) <;> omega

def sameB (k : Int) (b : Nat) (l : Int) (c : Nat) : Bool := decide (clK k b = clK l c ∧ clB k b = clB l c)


/-- the order of two values -/
def vordP (k : Int) (b : Nat) (l : Int) (c : Nat) : Int :=
  if clK k b ≠ clK l c then cmpP (clK k b) (clK l c) else if clK k b = 1 then cmpP (wrap64 (clB k b)) (wrap64 (clB l c)) else if clK k b = 4 then ordP (clB k b) (clB l c) else cmpP (clB k b) (clB l c)

set_option maxHeartbeats 1000000 in
theorem order_v (k l : Int) (b c : Nat) (w : World) (hb : b < 18446744073709551616) (hc : c < 18446744073709551616) :
    Calls Try.prog 96 #[.agg #[.int .i64 k, .int .u64 (b : Int)], .agg #[.int .i64 l, .int .u64 (c : Int)]] w fun e w' => e = .returned (.int .i64 (vordP k b l c)) ∧ Below w.heap.size w w' := by
  go_enter Try.func96, Try.ntmps96
  go_wp2
  go_upto_region 2 with (fail)
  go_cut [] from 5 to 8 (fun w' => w'.cell? ⟨w.heap.size, 0, none⟩ = some (.int .i64 (clK k b)) ∧ w'.cell? ⟨w.heap.size, 1, none⟩ = some (.int .u64 ((clB k b : Nat) : Int)) ∧ w'.cell? ⟨w.heap.size + 1, 0, none⟩ = some (.int .i64 (clK l c)) ∧ w'.cell? ⟨w.heap.size + 1, 1, none⟩ = some (.int .u64 ((clB l c : Nat) : Int)) ∧ Below w.heap.size w w')
  case first =>
    go_region_with (go_at_call 24; refine (clean_any _ _ _ (by assumption)).mono ?_; rintro e w1 ⟨rfl, hb1⟩; obtain ⟨p0, p1, p2, p3⟩ := later2 (g := w.heap.size) (u := .int .i64 k) (v := .int .u64 (b : Int)) hb1 (by first | exact ⟨by assumption, by assumption, by assumption, by assumption⟩ | simp); obtain ⟨q0, q1, q2, q3⟩ := later2 (g := w.heap.size + 1) (u := .int .i64 l) (v := .int .u64 (c : Int)) hb1 (by first | exact ⟨by assumption, by assumption, by assumption, by assumption⟩ | simp); have hB := below_more (w0 := w) (by first | exact (below2 _ _ _).drew | assumption) hb1)
    all_goals (go_wp2_with fail; go_meet; obtain ⟨r0, r1, r2, r3⟩ := four_cells (.int .i64 (clK k b)) (.int .u64 ((clB k b : Nat) : Int)) (.int .i64 (clK l c)) (.int .u64 ((clB l c : Nat) : Int)) p0 p1 q0 q1; exact ⟨r0, r1, r2, r3, (((hB.setCell (by simp) _).setCell (by simp) _).setCell (by simp) _).setCell (by simp) _⟩)
  case rest =>
    obtain ⟨r0, r1, r2, r3, hB⟩ := hcut
    have V := Lib.hid (show vordP k b l c = if clK k b ≠ clK l c then cmpP (clK k b) (clK l c) else if clK k b = 1 then cmpP (wrap64 (clB k b)) (wrap64 (clB l c)) else if clK k b = 4 then ordP (clB k b) (clB l c) else cmpP (clB k b) (clB l c) from rfl)
    have l1 := clB_lt k hb
    have l2 := clB_lt l hc
    generalize clK k b = x at *
    generalize clK l c = y at *
    generalize clB k b = p at *
    generalize clB l c = q at *
    by_cases e : x = y
    · subst e
      have e1 : (x != x) = false := by simp
      by_cases k1 : x = 1
      · subst k1
        have E := Lib.hid (show cmpP (wrap64 p) (wrap64 q) = vordP k b l c by rw [V.out]; simp)
        clear V
        go_wp2_with (go_at_call 99; refine (compareL_any _ _ _).mono ?_; rintro e w' ⟨rfl, rfl⟩)
        go_ret
        exact ⟨ret_int E.out, hB⟩
      · have f1 : (x == 1) = false := by simpa using k1
        by_cases k4 : x = 4
        · subst k4
          have E := Lib.hid (show ordP p q = vordP k b l c by rw [V.out]; simp)
          clear V
          go_wp2_with (go_at_call 100; refine (order_any _ _ _ l1 l2).mono ?_; rintro e w' ⟨rfl, rfl⟩)
          go_ret
          exact ⟨ret_int E.out, hB⟩
        · have f4 : (x == 4) = false := by simpa using k4
          have E := Lib.hid (show cmpP p q = vordP k b l c by rw [V.out, if_neg (by simp), if_neg k1, if_neg k4])
          clear V
          go_wp2_with (go_at_call 101; refine (compareU_any _ _ _).mono ?_; rintro e w' ⟨rfl, rfl⟩)
          go_ret
          exact ⟨ret_int E.out, hB⟩
    · have e1 : (x != y) = true := by simpa using e
      have E := Lib.hid (show cmpP x y = vordP k b l c by rw [V.out, if_pos e])
      clear V
      go_wp2_with (go_at_call 98; refine (compareI_any _ _ _).mono ?_; rintro e w' ⟨rfl, rfl⟩)
      go_ret
      exact ⟨ret_int E.out, hB⟩
end Go.Proofs.Ytfjnphiegoogoaa

/- LkC -/
namespace Go.Proofs.Ytfjnphiegoogoaa
open Go.ChangeShapes Go.WideShapes Go.ChangeAt Go.RowKit Go.Fl
set_option linter.unusedVariables false
set_option linter.unusedSimpArgs false

theorem RowV.at_ {w : World} {A : Option Addr} {n : Nat} {vs : List (Int × Nat)} (h : RowV w A n vs) {i : Nat} {v : Int × Nat} (hv : vs[i]? = some v) :
    ∃ b off, A = some ⟨b, off, none⟩ ∧ w.cell? ⟨b, off + i * 2, none⟩ = some (.int .i64 v.1) ∧ w.cell? ⟨b, off + i * 2 + 1, none⟩ = some (.int .u64 (v.2 : Int)) ∧ v.2 < 18446744073709551616 := by
  have hl : i < n := by rw [← h.1]; exact (List.getElem?_eq_some_iff.1 hv).1
  obtain ⟨b, off, hA, hc⟩ := h.2.2 (by omega)
  have := hc i v.1 v.2 hv
  exact ⟨b, off, hA, this.1, this.2, h.2.1 _ (List.mem_of_getElem? hv)⟩

def headP (vs : List (Int × Nat)) : Int × Nat := vs.headD (0, 0)
def lastP (vs : List (Int × Nat)) : Int × Nat := vs.getLastD (0, 0)

theorem head_any (A : Option Addr) (cap : Nat) (vs : List (Int × Nat)) (w : World) (hv : RowV w A vs.length vs) (h0 : 0 < vs.length) :
    Calls Try.prog 94 #[.slice A vs.length cap] w (VIs (headP vs) w) := by
  obtain ⟨v, hv0⟩ : ∃ v, vs[0]? = some v := ⟨vs[0], List.getElem?_eq_getElem h0⟩
  have hp : headP vs = v := by unfold headP; cases vs with | nil => simp at h0 | cons a l => simpa using hv0
  have hu := m1 w (.cells #[.int .i64 0, .int .u64 0] 25)
  obtain ⟨b, off, rfl, c0, c1, _⟩ := (hv.later hu).at_ hv0
  rw [hp]
  obtain ⟨k, c⟩ := v
  simp only [Nat.zero_mul, Nat.add_zero] at c0 c1
  have i1 : (0 : Int) < (vs.length : Int) := by omega
  replace hu := Lib.hid hu
  clear hp hv0 hv
  go_enter Try.func94, Try.ntmps94
  go_wp2
  exact bodyPost_ret (v := .agg #[.int .i64 k, .int .u64 (c : Int)]) (by simp [results, Try.results94, go_sem]) rfl (.mk rfl (m1 _ _))

theorem last_any (A : Option Addr) (cap : Nat) (vs : List (Int × Nat)) (w : World) (hv : RowV w A vs.length vs) (h0 : 0 < vs.length) (hl : vs.length ≤ 9223372036854775807) :
    Calls Try.prog 88 #[.slice A vs.length cap] w (VIs (lastP vs) w) := by
  obtain ⟨n, hn⟩ : ∃ n, vs.length = n + 1 := ⟨vs.length - 1, by omega⟩
  obtain ⟨v, hv0⟩ : ∃ v, vs[n]? = some v := ⟨vs[n], List.getElem?_eq_getElem (by omega)⟩
  have hp : lastP vs = v := by unfold lastP; rw [List.getLastD_eq_getLast?, List.getLast?_eq_getElem?, hn, Nat.add_sub_cancel, hv0]; rfl
  have hu := m1 w (.cells #[.int .i64 0, .int .u64 0] 25)
  obtain ⟨b, off, rfl, c0, c1, _⟩ := (hv.later hu).at_ hv0
  rw [hp, hn]
  obtain ⟨k, c⟩ := v
  have hw : IntKind.i64.wrap (((n + 1 : Nat) : Int) - 1) = (n : Int) := by rw [IntKind.wrap_i64]; omega
  have hw2 : ((n + 1 : Nat) : Int) - 1 = (n : Int) := by omega
  have i0 : (0 : Int) ≤ (n : Int) := by omega
  have i1 : (n : Int) < ((n + 1 : Nat) : Int) := by omega
  have hn2 : n + 1 ≤ 9223372036854775807 := by omega
  replace hu := Lib.hid hu
  clear hp hv0 hv hn hl h0
  go_enter Try.func88, Try.ntmps88
  go_wp2
  exact bodyPost_ret (v := .agg #[.int .i64 k, .int .u64 (c : Int)]) (by simp [results, Try.results88, go_sem]) rfl (.mk rfl (m1 _ _))

def addP (t v : Int × Nat) : Int × Nat := appP 1 [t, v]
def sumP (vs : List (Int × Nat)) : Int × Nat :=
  match vs with
  | [] => (0, 0)
  | v :: l => l.foldl addP v
def SumR (w : World) (g : Nat) (rs : List (Int × Nat)) (R : Int × Nat) (k : Nat) (wr : World) : Prop :=
  ∃ t : Int × Nat, Blk wr g 25 #[.int .i64 t.1, .int .u64 (t.2 : Int)] ∧ (rs.drop k).foldl addP t = R ∧ t.2 < 18446744073709551616 ∧ Blk wr w.heap.size 25 #[.int .i64 0, .int .u64 0] ∧ Below w.heap.size w wr

set_option maxHeartbeats 4000000 in
set_option maxRecDepth 100000 in
theorem sum_one (A : Option Addr) (v : Int × Nat) (w : World) (hv : RowV w A 1 [v]) :
    Calls Try.prog 89 #[.slice A 1 1] w (VIs v w) := by
  have hu := m1 w (.cells #[.int .i64 0, .int .u64 0] 25)
  obtain ⟨b, off, rfl, c0, c1, _⟩ := (hv.later hu).at_ (i := 0) rfl
  obtain ⟨k, c⟩ := v
  simp only [Nat.zero_mul, Nat.add_zero] at c0 c1
  clear hv hu
  go_enter Try.func89, Try.ntmps89
  go_wp2
  go_loopw [12] (fun i wr => i = .int .i64 0 ∧ wr = (w.alloc (.cells #[.int .i64 0, .int .u64 0] 25)).alloc (.cells #[.int .i64 k, .int .u64 (c : Int)] 25)) (fun i _ => 0)
  case atStart => exact ⟨rfl, rfl⟩
  case round =>
    obtain ⟨rfl, rfl⟩ := hrel
    go_wp2
    exact bodyPost_ret (v := .agg #[.int .i64 k, .int .u64 (c : Int)]) (by simp [results, Try.results89, go_sem]) rfl (.mk rfl (m2 _ _ _))

set_option maxHeartbeats 4000000 in
set_option maxRecDepth 100000 in
theorem sum_more (A : Option Addr) (v x : Int × Nat) (l : List (Int × Nat)) (w : World) (hv : RowV w A (l.length + 2) (v :: x :: l)) (hl : l.length + 2 ≤ 9223372036854775807) :
    Calls Try.prog 89 #[.slice A (l.length + 2) (l.length + 2)] w (VIs (sumP (v :: x :: l)) w) := by
  show Calls _ _ _ _ (VIs ((x :: l).foldl addP v) w)
  have hrs : (x :: l).length = l.length + 1 := rfl
  have hcell : ∀ k y, (x :: l)[k]? = some y → (v :: x :: l)[k + 1]? = some y := fun k y h => by simpa using h
  generalize x :: l = rs at *
  generalize hR : rs.foldl addP v = R
  generalize l.length = m at *
  have hu := m1 w (.cells #[.int .i64 0, .int .u64 0] 25)
  obtain ⟨b, off, rfl, c0, c1, vlt⟩ := (hv.later hu).at_ (i := 0) rfl
  obtain ⟨vk, vb⟩ := v
  simp only [Nat.zero_mul, Nat.add_zero] at c0 c1 vlt
  have hcl : ∀ k y, rs[k]? = some y → w.cell? ⟨b, off + 2 + k * 2, none⟩ = some (.int .i64 y.1) ∧ w.cell? ⟨b, off + 2 + k * 2 + 1, none⟩ = some (.int .u64 (y.2 : Int)) ∧ y.2 < 18446744073709551616 := fun k y h => by
    obtain ⟨b', off', e, d0, d1, d2⟩ := hv.at_ (hcell k y h)
    simp only [Option.some.injEq, Addr.mk.injEq, and_true] at e
    obtain ⟨rfl, rfl⟩ := e
    rw [show off + (k + 1) * 2 = off + 2 + k * 2 by omega] at d0 d1
    exact ⟨d0, d1, d2⟩
  have k0 : Blk ((w.alloc (.cells #[.int .i64 0, .int .u64 0] 25)).alloc (.cells #[.int .i64 vk, .int .u64 (vb : Int)] 25)) (w.heap.size + 1) 25 #[.int .i64 vk, .int .u64 (vb : Int)] := by
    have := Blk.made (w.alloc (.cells #[.int .i64 0, .int .u64 0] 25)) 25 #[.int .i64 vk, .int .u64 (vb : Int)]
    simpa using this
  have z0 : Blk ((w.alloc (.cells #[.int .i64 0, .int .u64 0] 25)).alloc (.cells #[.int .i64 vk, .int .u64 (vb : Int)] 25)) w.heap.size 25 #[.int .i64 0, .int .u64 0] :=
    (Blk.made w 25 #[.int .i64 0, .int .u64 0]).kept (m1 _ _)
  have s0 : SumR w (w.heap.size + 1) rs R 0 ((w.alloc (.cells #[.int .i64 0, .int .u64 0] 25)).alloc (.cells #[.int .i64 vk, .int .u64 (vb : Int)] 25)) :=
    ⟨(vk, vb), k0, by simpa using hR, vlt, z0, m2 _ _ _⟩
  replace s0 := Lib.hid s0
  replace hcl := Lib.hid hcl
  replace hrs := Lib.hid hrs
  clear hv hcell hu k0 z0 hR
  go_enter Try.func89, Try.ntmps89
  go_wp2
  go_loopw [12] (fun i wr => ∃ k : Nat, k ≤ m + 1 ∧ i = .int .i64 (k : Int) ∧ SumR w (w.heap.size + 1) rs R k wr) (fun i _ => m + 1 - (intOf i).toNat)
  case atStart => exact ⟨0, Nat.zero_le _, rfl, s0.out⟩
  case round =>
    obtain ⟨k, hk, rfl, ⟨tk, tb⟩, hT, hR, hlt, hZ, hW⟩ := hrel
    clear s0
    by_cases hkl : k < m + 1
    · have hkr : k < rs.length := by rw [hrs.out]; exact hkl
      have hrk : rs[k]? = some (rs[k].1, rs[k].2) := List.getElem?_eq_getElem hkr
      rw [List.drop_eq_getElem_cons hkr, List.foldl_cons] at hR
      obtain ⟨d0, d1, d2⟩ := hcl.out k _ hrk
      generalize rs[k] = y at *
      obtain ⟨yk, yb⟩ := y
      clear hrk hkr
      simp only at hT hlt d0 d1 d2
      have d0 := cell_later hW d0
      have d1 := cell_later hW d1
      have t0 : wr.cell? ⟨w.heap.size + 1, 0, none⟩ = some (.int .i64 tk) := hT.cell 0
      have t1 : wr.cell? ⟨w.heap.size + 1, 1, none⟩ = some (.int .u64 (tb : Int)) := hT.cell 1
      have hb2 := m2 wr (.cells #[.int .i64 yk, .int .u64 (yb : Int)] 25) (.cells #[.int .i64 tk, .int .u64 (tb : Int), .int .i64 yk, .int .u64 (yb : Int)] 25)
      have hrow := row_two (w := (wr.alloc (.cells #[.int .i64 yk, .int .u64 (yb : Int)] 25)).alloc (.cells #[.int .i64 tk, .int .u64 (tb : Int), .int .i64 yk, .int .u64 (yb : Int)] 25)) (g := wr.heap.size + 1) (k1 := tk) (k2 := yk) hlt d2 (by simp [go_sem]) (by simp [go_sem]) (by simp [go_sem]) (by simp [go_sem])
      have hA := apply_any 1 _ 2 2 _ _ hrow
      have hap := app_lt 1 [(tk, tb), (yk, yb)] wr (by simp; exact ⟨hlt, d2⟩)
      have hR' : (rs.drop (k + 1)).foldl addP (appP 1 [(tk, tb), (yk, yb)]) = R := hR
      have h1 : w.heap.size + 1 < wr.heap.size := hT.lt
      generalize appP 1 [(tk, tb), (yk, yb)] = x at *
      obtain ⟨xk, xb⟩ := x
      simp only at hA hap
      replace hA := Lib.hid hA
      replace hb2 := Lib.hid hb2
      replace hW := Lib.hid hW
      replace hT := Lib.hid hT
      replace hZ := Lib.hid hZ
      replace hR' := Lib.hid hR'
      clear hR hrow
      go_wp2_with fail
      refine hA.out.mono ?_; rintro e w5 ⟨rfl, hb5⟩
      have hT5 := (hT.out.kept hb2.out).kept hb5
      have hZ5 := ((hZ.out.kept hb2.out).kept hb5)
      have hW5 := mmore (mmore hW.out hb2.out) hb5
      have u0 : w5.cell? ⟨w.heap.size + 1, 0, none⟩ = some (.int .i64 tk) := hT5.cell 0
      have u1 : w5.cell? ⟨w.heap.size + 1, 1, none⟩ = some (.int .u64 (tb : Int)) := hT5.cell 1
      have f0 : w5.frozen? ⟨w.heap.size + 1, 0, none⟩ = false := hT5.free 0
      have f1 : w5.frozen? ⟨w.heap.size + 1, 1, none⟩ = false := hT5.free 1
      have hT6 : Blk ((w5.setCell ⟨w.heap.size + 1, 0, none⟩ (.int .i64 xk)).setCell ⟨w.heap.size + 1, 1, none⟩ (.int .u64 (xb : Int))) (w.heap.size + 1) 25 #[.int .i64 xk, .int .u64 (xb : Int)] := by simpa using (hT5.put_ 0 (.int .i64 xk)).put_ 1 (.int .u64 (xb : Int))
      have hZ6 := (hZ5.else_ (p := ⟨w.heap.size + 1, 0, none⟩) (by show w.heap.size + 1 ≠ w.heap.size; omega) (.int .i64 xk)).else_ (p := ⟨w.heap.size + 1, 1, none⟩) (by show w.heap.size + 1 ≠ w.heap.size; omega) (.int .u64 (xb : Int))
      have hW6 := (hW5.setCell (p := ⟨w.heap.size + 1, 0, none⟩) (by show w.heap.size ≤ w.heap.size + 1; omega) (.int .i64 xk)).setCell (p := ⟨w.heap.size + 1, 1, none⟩) (by show w.heap.size ≤ w.heap.size + 1; omega) (.int .u64 (xb : Int))
      replace hT6 := Lib.hid hT6
      replace hZ6 := Lib.hid hZ6
      replace hW6 := Lib.hid hW6
      clear hT5 hZ5 hW5 t0 t1 d0 d1 hA hb2 hb5 hT hZ hW
      go_wp2
      go_roundw
      case rel => exact ⟨k + 1, by omega, by go_num, (xk, xb), hT6.out, hR'.out, hap, hZ6.out, hW6.out⟩
      case measure => simp [intOf]; omega
    · obtain rfl : k = m + 1 := by omega
      have t0 : wr.cell? ⟨w.heap.size + 1, 0, none⟩ = some (.int .i64 tk) := hT.cell 0
      have t1 : wr.cell? ⟨w.heap.size + 1, 1, none⟩ = some (.int .u64 (tb : Int)) := hT.cell 1
      have x0 : wr.cell? ⟨w.heap.size, 0, none⟩ = some (.int .i64 0) := hZ.cell 0
      have x1 : wr.cell? ⟨w.heap.size, 1, none⟩ = some (.int .u64 0) := hZ.cell 1
      have f0 : wr.frozen? ⟨w.heap.size, 0, none⟩ = false := hZ.free 0
      have f1 : wr.frozen? ⟨w.heap.size, 1, none⟩ = false := hZ.free 1
      have hE : (tk, tb) = R := by
        rw [← hR, List.drop_eq_nil_of_le (by rw [hrs.out]; exact Nat.le_refl _)]; rfl
      subst hE
      obtain ⟨_, r1, r2⟩ := put2 (w := wr) (g := w.heap.size) (.int .i64 tk) (.int .u64 (tb : Int)) x0 x1
      replace r1 := Lib.hid r1
      replace r2 := Lib.hid r2
      replace hW := Lib.hid hW
      clear hT hZ hR
      go_wp2
      exact bodyPost_ret (v := .agg #[.int .i64 tk, .int .u64 (tb : Int)]) (by simp [results, Try.results89, go_sem, r1.out, r2.out]) rfl (.mk rfl ((hW.out.setCell (Nat.le_refl _) _).setCell (Nat.le_refl _) _))

theorem sum_any (A : Option Addr) (vs : List (Int × Nat)) (w : World) (hv : RowV w A vs.length vs) (h0 : 0 < vs.length) (hl : vs.length ≤ 9223372036854775807) :
    Calls Try.prog 89 #[.slice A vs.length vs.length] w (VIs (sumP vs) w) := by
  match vs, hv, h0, hl with
  | [v], hv, _, _ => exact sum_one A v w hv
  | v :: x :: l, hv, _, hl => exact sum_more A v x l w hv (by simpa using hl)
end Go.Proofs.Ytfjnphiegoogoaa
