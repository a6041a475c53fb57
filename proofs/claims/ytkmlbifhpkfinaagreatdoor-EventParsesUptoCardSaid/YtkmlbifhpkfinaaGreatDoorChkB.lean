/- Check of schemas in the program, as a contract. -/
import Derived.Test.YtkmlbifhpkfinaaGreatDoorWell
namespace Go.Proofs.YtkmlbifhpkfinaaGreatDoor
open Go.ChangeShapes Go.WideShapes Go.ChangeAt Go.RowKit
set_option linter.unusedVariables false
set_option linter.unusedSimpArgs false

def LongP (ts : List ST) (ss : List ByteArray) : Prop := 16 < ts.length ∨ 64 < ss.length ∨ ∃ (i : Nat) (t : ST), ts[i]? = some t ∧ 8 < t.2.length
def KindsP (ts : List ST) : Prop := ∀ (i : Nat) (t : ST), ts[i]? = some t → ∀ (j : Nat) (f : SF), t.2[j]? = some f → 1 ≤ f.2 ∧ f.2 ≤ 4
/-- what Check tells -/
def CheckIs (ts : List ST) (ss : List ByteArray) (c : Int) : Prop := (LongP ts ss ∧ c = 2) ∨ (¬ LongP ts ss ∧ ¬ WellP ts ss ∧ c = 10) ∨ (¬ LongP ts ss ∧ WellP ts ss ∧ ¬ KindsP ts ∧ c = 11) ∨ (¬ LongP ts ss ∧ WellP ts ss ∧ KindsP ts ∧ c = 0)
theorem check_one {ts : List ST} {ss : List ByteArray} {c d : Int} (h : CheckIs ts ss c) (h' : CheckIs ts ss d) : c = d := by
  unfold CheckIs at h h'
  rcases h with ⟨a, e⟩ | ⟨a, b, e⟩ | ⟨a, b, g, e⟩ | ⟨a, b, g, e⟩ <;> rcases h' with ⟨a', e'⟩ | ⟨a', b', e'⟩ | ⟨a', b', g', e'⟩ | ⟨a', b', g', e'⟩ <;> first | (rw [e, e']; done) | (exfalso; simp_all; done)

theorem clo_long (nm : ByteArray) (FA : Option Addr) (n fcap : Nat) (w : World) :
    Calls Tryz.prog 72 #[.agg #[.string nm, .slice FA n fcap]] w fun e w' => e = .returned (.bool (decide (8 < n))) ∧ Below w.heap.size w w' := by
  go_enter Tryz.func72, Tryz.ntmps72
  go_wp2
  go_ret
  exact ⟨by congr 2; simp; omega, m1 _ _⟩

set_option maxHeartbeats 4000000 in
theorem ixlong_any (A : Option Addr) (cap : Nat) (ts : List ST) (w : World) (hc : TypesAt w A ts) (hn : ts.length ≤ 9223372036854775807) :
    Calls Tryz.prog 63 #[.slice A ts.length cap, .func (.func 72) #[] #[]] w fun e w' => e = .returned (.int .i64 (place (fun t : ST => decide (8 < t.2.length)) ts)) ∧ Below w.heap.size w w' := by
  replace hc := Lib.hid hc
  go_enter Tryz.func63, Tryz.ntmps63
  go_wp2_with fail
  go_loopw [8] (fun i wr => ∃ k : Nat, k ≤ ts.length ∧ i = .int .i64 (k : Int) ∧ Below w.heap.size w wr ∧ Hid (∀ (j : Nat) (y : ST), j < k → ts[j]? = some y → (decide (8 < y.2.length)) = false)) (fun i _ => ts.length - (intOf i).toNat)
  case atStart => exact ⟨0, Nat.zero_le _, rfl, Below.refl _ _, Lib.hid (fun j y h => by omega)⟩
  case round =>
    obtain ⟨k, hk, rfl, hB, H⟩ := hrel
    by_cases hlt : k < ts.length
    · have hx : ts[k]? = some ts[k] := List.getElem?_eq_getElem hlt
      generalize ts[k] = x at *
      obtain ⟨nm, fs⟩ := x
      obtain ⟨b, off, FA, fcap, rfl, r0, r1, _⟩ := hc.out.at_ hx
      have r0 : _ = some (Value.string nm) := cell_later hB r0
      have r1 : _ = some (Value.slice FA fs.length fcap) := cell_later hB r1
      replace hx := Lib.hid hx
      have k0 : (0 : Int) ≤ (k : Int) := by omega
      have k1 : (k : Int) < (ts.length : Int) := by omega
      obtain ⟨q, hq⟩ : ∃ q, decide (8 < fs.length) = q := ⟨_, rfl⟩
      have CC := Lib.hid (clo_long nm FA fs.length fcap wr)
      rw [hq] at CC
      replace hq := Lib.hid hq
      cases q
      · go_wp2_with (go_at_call 72; refine CC.out.mono ?_; rintro e w1 ⟨rfl, hb1⟩)
        go_roundw
        case rel => exact ⟨k + 1, by omega, by go_num, mmore hB hb1, Lib.hid (fun j y h hy => by
          by_cases c : j < k
          · exact H.out j y c hy
          · obtain rfl : j = k := by omega
            rw [hx.out] at hy
            injection hy with hy
            rw [← hy]; exact hq.out)⟩
        case measure => simp [intOf]; omega
      · go_wp2_with (go_at_call 72; refine CC.out.mono ?_; rintro e w1 ⟨rfl, hb1⟩)
        go_ret
        exact ⟨fret_int (by rw [place_hit (fun t : ST => decide (8 < t.2.length)) ts k _ hx.out hq.out (fun j y hj hy => H.out j y hj hy)]), mmore hB hb1⟩
    · obtain rfl : k = ts.length := by omega
      go_wp2_with fail
      go_ret
      exact ⟨fret_int (by rw [place_miss (fun t : ST => decide (8 < t.2.length)) ts (fun j y hy => H.out j y (List.getElem?_eq_some_iff.1 hy).1 hy)]), hB⟩

theorem somelong_any (A : Option Addr) (cap : Nat) (ts : List ST) (w : World) (hc : TypesAt w A ts) (hn : ts.length ≤ 9223372036854775807) :
    Calls Tryz.prog 71 #[.slice A ts.length cap, .func (.func 72) #[] #[]] w (Tells (∃ (i : Nat) (t : ST), ts[i]? = some t ∧ 8 < t.2.length) w) := by
  have CC := Lib.hid (ixlong_any A cap ts w hc hn)
  have PN := place_neg (fun t : ST => decide (8 < t.2.length)) ts
  generalize place (fun t : ST => decide (8 < t.2.length)) ts = r at *
  have PE : 0 ≤ r ↔ ∃ (i : Nat) (t : ST), ts[i]? = some t ∧ 8 < t.2.length := by
    constructor
    · intro h
      apply Classical.byContradiction
      intro hn
      have := PN.2 (fun j y hy => decide_eq_false (fun h8 => hn ⟨j, y, hy, h8⟩))
      omega
    · rintro ⟨i, t, ht, h8⟩
      apply Classical.byContradiction
      intro hn
      have := PN.1 (by omega) i t ht
      simp at this
      omega
  replace PE := Lib.hid PE
  clear hc PN
  go_enter Tryz.func71, Tryz.ntmps71
  go_wp2_with (go_at_call 63; refine CC.out.mono ?_; rintro e w1 ⟨rfl, hb1⟩)
  go_ret
  exact ⟨decide (0 ≤ r), rfl, by rw [decide_eq_true_iff]; exact PE.out, hb1⟩

theorem long_any (A B : Option Addr) (cap capB : Nat) (ts : List ST) (ss : List ByteArray) (w : World) (hc : TypesAt w A ts) (hn : ts.length ≤ 9223372036854775807) :
    Calls Tryz.prog 47 #[.agg #[.slice A ts.length cap, .slice B ss.length capB]] w (Tells (LongP ts ss) w) := by
  have hu := m1 w (.cells #[.slice A ts.length cap, .slice B ss.length capB] 31)
  have CC := Lib.hid (somelong_any A cap ts _ (hc.later hu) hn)
  replace hu := Lib.hid hu
  clear hc
  by_cases h1 : 16 < ts.length
  · have hL : LongP ts ss := .inl h1
    replace hL := Lib.hid hL
    have h1' : (16 : Int) < (ts.length : Int) := by omega
    go_enter Tryz.func47, Tryz.ntmps47
    go_wp2_with fail
    go_ret
    exact tells_yes hL.out hu.out
  have h1' : ¬ (16 : Int) < (ts.length : Int) := by omega
  by_cases h2 : 64 < ss.length
  · have hL : LongP ts ss := .inr (.inl h2)
    replace hL := Lib.hid hL
    have h2' : (64 : Int) < (ss.length : Int) := by omega
    go_enter Tryz.func47, Tryz.ntmps47
    go_wp2_with fail
    go_ret
    exact tells_yes hL.out hu.out
  have h2' : ¬ (64 : Int) < (ss.length : Int) := by omega
  go_enter Tryz.func47, Tryz.ntmps47
  go_wp2_with fail
  refine CC.out.mono ?_; rintro e w1 ⟨q, rfl, hq, hb1⟩
  replace hq := Lib.hid hq
  go_wp2_with fail
  all_goals go_ret
  all_goals exact ⟨q, rfl, ⟨fun h => .inr (.inr (hq.out.1 h)), fun h => hq.out.2 (by
    rcases h with h | h | h
    · exact absurd h h1
    · exact absurd h h2
    · exact h)⟩, mmore hu.out hb1⟩

set_option maxHeartbeats 4000000 in
theorem kinds_any (A : Option Addr) (cap : Nat) (v2 : Value) (ts : List ST) (w : World) (hc : TypesAt w A ts) (hn : ts.length ≤ 9223372036854775807) (hf : ∀ x ∈ ts, x.2.length ≤ 9223372036854775807) :
    Calls Tryz.prog 49 #[.agg #[.slice A ts.length cap, v2]] w (Tells (KindsP ts) w) := by
  have hu := m1 w (.cells #[.slice A ts.length cap, v2] 31)
  replace hc := Lib.hid (hc.later hu)
  replace hf := Lib.hid hf
  go_enter Tryz.func49, Tryz.ntmps49
  go_wp2_with fail
  generalize w.alloc (.cells #[.slice A ts.length cap, v2] 31) = u at *
  go_loopw [10] (fun i wr => ∃ k : Nat, k ≤ ts.length ∧ i = .int .i64 (k : Int) ∧ Below u.heap.size u wr ∧ Hid (∀ (i : Nat) (t : ST), i < k → ts[i]? = some t → ∀ (j : Nat) (f : SF), t.2[j]? = some f → 1 ≤ f.2 ∧ f.2 ≤ 4)) (fun i _ => ts.length - (intOf i).toNat)
  case atStart => exact ⟨0, Nat.zero_le _, rfl, Below.refl _ _, Lib.hid (fun j y h => by omega)⟩
  case round =>
    obtain ⟨k, hk, rfl, hB, H⟩ := hrel
    by_cases hlt : k < ts.length
    · have hx : ts[k]? = some ts[k] := List.getElem?_eq_getElem hlt
      have hfx := hf.out _ (List.getElem_mem hlt)
      generalize ts[k] = x at *
      obtain ⟨nm, fs⟩ := x
      obtain ⟨b, off, FA, fcap, rfl, r0, r1, hF⟩ := hc.out.at_ hx
      have r0 : _ = some (Value.string nm) := cell_later hB r0
      have r1 : _ = some (Value.slice FA fs.length fcap) := cell_later hB r1
      have hF : FieldsAt u FA fs := hF
      have hfx : fs.length ≤ 9223372036854775807 := hfx
      replace hx := Lib.hid hx
      replace hF := Lib.hid hF
      have k0 : (0 : Int) ≤ (k : Int) := by omega
      have k1 : (k : Int) < (ts.length : Int) := by omega
      have hb2 := m1 wr (.cells #[.string nm, .slice FA fs.length fcap] 54)
      obtain ⟨wo, rfl⟩ : ∃ wo : World, wo = wr := ⟨_, rfl⟩
      go_wp2_with fail
      have hB2 := mmore hB hb2
      clear r0 r1 hb2
      generalize wo.alloc (.cells #[.string nm, .slice FA fs.length fcap] 54) = wb at *
      go_loopw [17] (fun i wr => ∃ j : Nat, j ≤ fs.length ∧ i = .int .i64 (j : Int) ∧ Below wb.heap.size wb wr ∧ Hid (∀ (i : Nat) (f : SF), i < j → fs[i]? = some f → 1 ≤ f.2 ∧ f.2 ≤ 4)) (fun i _ => fs.length - (intOf i).toNat)
      case atStart => exact ⟨0, Nat.zero_le _, rfl, Below.refl _ _, Lib.hid (fun j y h => by omega)⟩
      case round =>
        obtain ⟨j, hj, rfl, hBi, H2⟩ := hrel
        have hB3 := mmore hB2 hBi
        by_cases hjl : j < fs.length
        · obtain ⟨fb, foff, rfl, hfc⟩ := (hF.out.later hB3) (by omega)
          have hy : fs[j]? = some fs[j] := List.getElem?_eq_getElem hjl
          obtain ⟨r0, r1⟩ := hfc j _ hy
          generalize fs[j] = y at *
          obtain ⟨fn, fk⟩ := y
          simp only at r0 r1
          replace hy := Lib.hid hy
          have j0 : (0 : Int) ≤ (j : Int) := by omega
          have j1 : (j : Int) < (fs.length : Int) := by omega
          clear hfc
          by_cases l1 : fk < 1
          · go_wp2_with fail
            go_ret
            exact tells_no (fun h => by have := (h k _ hx.out j _ hy.out).1; simp only at this; omega) (mmore hu (mmore hB3 (m1 _ _)))
          by_cases l4 : 4 < fk
          · go_wp2_with fail
            go_ret
            exact tells_no (fun h => by have := (h k _ hx.out j _ hy.out).2; simp only at this; omega) (mmore hu (mmore hB3 (m1 _ _)))
          go_wp2_with fail
          go_roundw
          case rel => exact ⟨j + 1, by omega, by go_num, mmore hBi (m1 _ _), Lib.hid (fun i f h hi => by
            by_cases c : i < j
            · exact H2.out i f c hi
            · obtain rfl : i = j := by omega
              rw [hy.out] at hi
              injection hi with hi
              subst hi
              exact ⟨by simp only; omega, by simp only; omega⟩)⟩
          case measure => simp [intOf]; omega
        · obtain rfl : j = fs.length := by omega
          go_wp2_with fail
          go_roundw
          case rel => exact ⟨k + 1, by omega, by go_num, hB3, Lib.hid (fun i t h ht => by
            by_cases c : i < k
            · exact H.out i t c ht
            · obtain rfl : i = k := by omega
              rw [hx.out] at ht
              injection ht with ht
              subst ht
              exact fun j f hf => H2.out j f (List.getElem?_eq_some_iff.1 hf).1 hf)⟩
          case measure => simp [intOf]; omega
    · obtain rfl : k = ts.length := by omega
      go_wp2_with fail
      go_ret
      exact tells_yes (fun i t ht => H.out i t (List.getElem?_eq_some_iff.1 ht).1 ht) (mmore hu hB)

/-- it answers what is wrong with a schema -/
def Checks (ts : List ST) (ss : List ByteArray) (w : World) (e : Ending) (w' : World) : Prop := ∃ c : Int, e = .returned (.int .i64 c) ∧ CheckIs ts ss c ∧ Below w.heap.size w w'

set_option maxHeartbeats 4000000 in
theorem check_any (A B : Option Addr) (cap capB : Nat) (ts : List ST) (ss : List ByteArray) (w : World) (hc : TypesAt w A ts) (hs : SymsAt w B ss) (b1 : ts.length * 40 ≤ 140737488351232) (b2 : ∀ t ∈ ts, t.2.length * 24 ≤ 140737488351232) (hB1 : ss.length ≤ capB) (hB2 : capB ≤ maxLen) :
    Calls Tryz.prog 31 #[.agg #[.slice A ts.length cap, .slice B ss.length capB]] w (Checks ts ss w) := by
  have hu := m1 w (.cells #[.slice A ts.length cap, .slice B ss.length capB] 31)
  have hf : ∀ x ∈ ts, x.2.length ≤ 9223372036854775807 := fun x hx => by have := b2 x hx; omega
  have c0 : (w.alloc (.cells #[.slice A ts.length cap, .slice B ss.length capB] 31)).cell? ⟨w.heap.size, 0, none⟩ = some (.slice A ts.length cap) := by simp [go_sem]
  have c1 : (w.alloc (.cells #[.slice A ts.length cap, .slice B ss.length capB] 31)).cell? ⟨w.heap.size, 1, none⟩ = some (.slice B ss.length capB) := by simp [go_sem]
  replace hc := Lib.hid (hc.later hu)
  replace hs := Lib.hid (hs.later hu)
  replace b2 := Lib.hid b2
  replace hf := Lib.hid hf
  go_enter Tryz.func31, Tryz.ntmps31
  go_wp2_with fail
  generalize w.alloc (.cells #[.slice A ts.length cap, .slice B ss.length capB] 31) = u at *
  refine (long_any A B cap capB ts ss _ hc.out (by omega)).mono ?_; rintro e w1 ⟨q, rfl, hq, hb1⟩
  have c0 := cell_later hb1 c0
  have c1 := cell_later hb1 c1
  have hB1' := hb1
  cases q
  · have hL : ¬ LongP ts ss := by simpa using hq
    replace hL := Lib.hid hL
    clear hq
    go_wp2_with fail
    refine (well_any A B cap capB ts ss _ (hc.out.later hb1) (hs.out.later hb1) b1 b2.out hB1 hB2).mono ?_; rintro e w2 ⟨q, rfl, hq, hb2⟩
    have c0 := cell_later hb2 c0
    have c1 := cell_later hb2 c1
    have hb12 := mmore hb1 hb2
    cases q
    · have hW : ¬ WellP ts ss := by simpa using hq
      replace hW := Lib.hid hW
      clear hq
      go_wp2_with fail
      go_ret
      exact ⟨10, rfl, .inr (.inl ⟨hL.out, hW.out, rfl⟩), mmore hu hb12⟩
    · have hW : WellP ts ss := by simpa using hq
      replace hW := Lib.hid hW
      clear hq
      go_wp2_with fail
      refine (kinds_any A cap _ ts _ (hc.out.later hb12) (by omega) hf.out).mono ?_; rintro e w3 ⟨q, rfl, hq, hb3⟩
      have hb123 := mmore hb12 hb3
      cases q
      · have hK : ¬ KindsP ts := by simpa using hq
        replace hK := Lib.hid hK
        clear hq
        go_wp2_with fail
        go_ret
        exact ⟨11, rfl, .inr (.inr (.inl ⟨hL.out, hW.out, hK.out, rfl⟩)), mmore hu hb123⟩
      · have hK : KindsP ts := by simpa using hq
        replace hK := Lib.hid hK
        clear hq
        go_wp2_with fail
        go_ret
        exact ⟨0, rfl, .inr (.inr (.inr ⟨hL.out, hW.out, hK.out, rfl⟩)), mmore hu hb123⟩
  · have hL : LongP ts ss := by simpa using hq
    replace hL := Lib.hid hL
    clear hq
    go_wp2_with fail
    go_ret
    exact ⟨2, rfl, .inl ⟨hL.out, rfl⟩, mmore hu hb1⟩
end Go.Proofs.YtkmlbifhpkfinaaGreatDoor
