/- Check of schemas in the document's package, as a contract. -/
import Derived.Test.YtkmlbifhpkfinaaGreatDoorRChk
import Derived.Deep.CutRange
import Derived.Deep.DeepCutAuto
namespace Go.Proofs.YtkmlbifhpkfinaaGreatDoor
open Go.ChangeShapes Go.WideShapes Go.ChangeAt Go.RowKit
set_option linter.unusedVariables false
set_option linter.unusedSimpArgs false

/-- one of the first k does it -/
def ExB {α : Type} (P : α → Prop) (l : List α) (k : Nat) : Prop := ∃ (i : Nat) (t : α), i < k ∧ l[i]? = some t ∧ P t
theorem ExB.zero {α : Type} (P : α → Prop) (l : List α) : ¬ ExB P l 0 := by rintro ⟨i, t, h, _⟩; omega
theorem ExB.step {α : Type} {P : α → Prop} {l : List α} {k : Nat} {x : α} (h : l[k]? = some x) : ExB P l (k + 1) ↔ ExB P l k ∨ P x := by
  constructor
  · rintro ⟨i, t, hi, ht, hp⟩
    by_cases c : i < k
    · exact .inl ⟨i, t, c, ht, hp⟩
    · obtain rfl : i = k := by omega
      rw [h] at ht
      injection ht with ht
      exact .inr (ht ▸ hp)
  · rintro (⟨i, t, hi, ht, hp⟩ | hp)
    · exact ⟨i, t, by omega, ht, hp⟩
    · exact ⟨k, x, by omega, h, hp⟩
theorem ExB.full {α : Type} (P : α → Prop) (l : List α) : ExB P l l.length ↔ ∃ (i : Nat) (t : α), l[i]? = some t ∧ P t :=
  ⟨fun ⟨i, t, _, h, hp⟩ => ⟨i, t, h, hp⟩, fun ⟨i, t, h, hp⟩ => ⟨i, t, (List.getElem?_eq_some_iff.1 h).1, h, hp⟩⟩
def LongT (t : ST) : Prop := 8 < t.2.length
def BadT (t : ST) : Prop := ¬ DistinctP (t.2.map (·.1))
def BadK (f : SF) : Prop := ¬ (1 ≤ f.2 ∧ f.2 ≤ 4)
def KinT (t : ST) : Prop := ExB BadK t.2 t.2.length
theorem long_ex (ts : List ST) (ss : List ByteArray) : LongP ts ss ↔ (16 < ts.length ∨ 64 < ss.length) ∨ ExB LongT ts ts.length := by
  rw [ExB.full, or_assoc]; rfl
theorem well_ex (ts : List ST) (ss : List ByteArray) : WellP ts ss ↔ ¬ ExB BadT ts ts.length ∧ DistinctP (ts.map (·.1)) ∧ DistinctP ss := by
  rw [ExB.full]
  constructor
  · rintro ⟨h, h1, h2⟩
    exact ⟨fun ⟨i, t, ht, hb⟩ => hb (h i t ht), h1, h2⟩
  · rintro ⟨h, h1, h2⟩
    exact ⟨fun i t ht => Classical.byContradiction fun hb => h ⟨i, t, ht, hb⟩, h1, h2⟩
theorem kinds_ex (ts : List ST) : KindsP ts ↔ ¬ ExB KinT ts ts.length := by
  rw [ExB.full]
  constructor
  · rintro h ⟨i, t, ht, hk⟩
    obtain ⟨j, f, hf, hb⟩ := (ExB.full BadK t.2).1 hk
    exact hb (h i t ht j f hf)
  · intro h i t ht j f hf
    exact Classical.byContradiction fun hb => h ⟨i, t, ht, (ExB.full BadK t.2).2 ⟨j, f, hf, hb⟩⟩

def KR1 (u : World) (ts : List ST) (b0 : Bool) (v3 v6 i : Value) (wr : World) : Prop :=
  ∃ (k : Nat) (b : Bool), k ≤ ts.length ∧ v3 = .bool b ∧ i = .int .i64 (k : Int) ∧ wr.ownsRow u.heap.size 9 1 v6 k (scells ((ts.map (·.1)).take k)) ∧ Below u.heap.size u wr ∧ Hid (b = true ↔ b0 = true ∨ ExB LongT ts k)
def KR2 (u : World) (ts : List ST) (v4 v5 i : Value) (wr : World) : Prop :=
  ∃ (k : Nat) (b c : Bool), k ≤ ts.length ∧ v4 = .bool b ∧ v5 = .bool c ∧ i = .int .i64 (k : Int) ∧ Below u.heap.size u wr ∧ Hid (b = true ↔ ExB BadT ts k) ∧ Hid (c = true ↔ ExB KinT ts k)
def KR3 (u : World) (fs : List SF) (c0 : Bool) (v5 v11 i : Value) (wr : World) : Prop :=
  ∃ (k : Nat) (c : Bool), k ≤ fs.length ∧ v5 = .bool c ∧ i = .int .i64 (k : Int) ∧ wr.ownsRow u.heap.size 9 1 v11 k (scells ((fs.map (·.1)).take k)) ∧ Below u.heap.size u wr ∧ Hid (c = true ↔ c0 = true ∨ ExB BadK fs k)

set_option maxHeartbeats 8000000 in
set_option maxRecDepth 100000 in
theorem rcheck_any (A B : Option Addr) (cap capB : Nat) (ts : List ST) (ss : List ByteArray) (w : World) (hc : TypesAt w A ts) (hs : SymsAt w B ss) (b1 : ts.length * 40 ≤ 140737488351232) (b2 : ∀ t ∈ ts, t.2.length * 24 ≤ 140737488351232) (hB1 : ss.length ≤ capB) (hB2 : capB ≤ maxLen) :
    Calls Tryz.prog 24 #[.agg #[.slice A ts.length cap, .slice B ss.length capB]] w (Checks ts ss w) := by
  obtain ⟨i0, hi, hz0, hz1, hz2⟩ := info_parts infoStr
  have hu := m1 w (.cells #[.slice A ts.length cap, .slice B ss.length capB] 25)
  have c0 : (w.alloc (.cells #[.slice A ts.length cap, .slice B ss.length capB] 25)).cell? ⟨w.heap.size, 0, none⟩ = some (.slice A ts.length cap) := by simp [go_sem]
  have c1 : (w.alloc (.cells #[.slice A ts.length cap, .slice B ss.length capB] 25)).cell? ⟨w.heap.size, 1, none⟩ = some (.slice B ss.length capB) := by simp [go_sem]
  have hs0 : (w.alloc (.cells #[.slice A ts.length cap, .slice B ss.length capB] 25)).heap.size = w.heap.size + 1 := by simp
  replace hc := Lib.hid (hc.later hu)
  replace hs := Lib.hid (hs.later hu)
  replace b2 := Lib.hid b2
  have bs : ss.length ≤ 9223372036854775807 := by unfold maxLen at hB2; omega
  have LE := Lib.hid (long_ex ts ss)
  have WE := Lib.hid (well_ex ts ss)
  have KE := Lib.hid (kinds_ex ts)
  go_enter Tryz.func24, Tryz.ntmps24
  go_upto_region 1 with (fail)
  generalize w.alloc (.cells #[.slice A ts.length cap, .slice B ss.length capB] 25) = u at *
  replace hs0 := Lib.hid hs0
  go_cut [3, 4, 5] from 14 to 23 (fun p q r w' => ∃ b0 : Bool, p = .bool b0 ∧ q = .bool false ∧ r = .bool false ∧ w' = u ∧ Hid (b0 = true ↔ 16 < ts.length ∨ 64 < ss.length))
  case first =>
    by_cases h1 : 16 < ts.length
    · have h1' : (16 : Int) < (ts.length : Int) := by omega
      replace h1 := Lib.hid h1
      go_wp2_with fail
      go_meet
      exact ⟨true, rfl, rfl, rfl, rfl, Lib.hid ⟨fun _ => .inl h1.out, fun _ => rfl⟩⟩
    have h1' : ¬ (16 : Int) < (ts.length : Int) := by omega
    replace h1 := Lib.hid h1
    by_cases h2 : 64 < ss.length
    · have h2' : (64 : Int) < (ss.length : Int) := by omega
      replace h2 := Lib.hid h2
      go_wp2_with fail
      go_meet
      exact ⟨true, rfl, rfl, rfl, rfl, Lib.hid ⟨fun _ => .inr h2.out, fun _ => rfl⟩⟩
    have h2' : ¬ (64 : Int) < (ss.length : Int) := by omega
    replace h2 := Lib.hid h2
    go_wp2_with fail
    go_meet
    exact ⟨false, rfl, rfl, rfl, rfl, Lib.hid ⟨fun h => (by cases h), fun h => (by rcases h with h | h; exact absurd h h1.out; exact absurd h h2.out)⟩⟩
  case rest =>
    obtain ⟨b0, rfl, rfl, rfl, rfl, HB0⟩ := hcut
    replace c1 := Lib.hid c1
    go_wp2_with fail
    go_loopw [3, 6, 27] (fun v3 v6 i wr => KR1 wc ts b0 v3 v6 i wr) (fun _ _ i _ => ts.length - (intOf i).toNat)
    case atStart => exact ⟨0, b0, Nat.zero_le _, rfl, rfl, World.ownsRow_nil _ _ _ _, Below.refl _ _, Lib.hid ⟨fun h => .inl h, fun h => (by rcases h with h | h; exact h; exact absurd h (ExB.zero _ _))⟩⟩
    case round =>
      obtain ⟨k, b, hk, rfl, rfl, hO, hB, H⟩ := hrel
      by_cases hlt : k < ts.length
      · have hx : ts[k]? = some ts[k] := List.getElem?_eq_getElem hlt
        have SN := Lib.hid (scells_snoc (fun t : ST => t.1) ts k _ hx)
        have EX := Lib.hid (ExB.step (P := LongT) hx)
        generalize ts[k] = x at *
        obtain ⟨nm, fs⟩ := x
        obtain ⟨bb, off, FA, fcap, rfl, r0, r1, hF⟩ := hc.out.at_ hx
        have SN2 : scells ((ts.map (·.1)).take (k + 1)) = scells ((ts.map (·.1)).take k) ++ [.string nm] := SN.out
        replace SN2 := Lib.hid SN2
        have EX2 : ExB LongT ts (k + 1) ↔ ExB LongT ts k ∨ 8 < fs.length := EX.out
        replace EX2 := Lib.hid EX2
        have r0 : _ = some (Value.string nm) := cell_later hB r0
        have r1 : _ = some (Value.slice FA fs.length fcap) := cell_later hB r1
        replace hx := Lib.hid hx
        have k0 : (0 : Int) ≤ (k : Int) := by omega
        have k1 : (k : Int) < (ts.length : Int) := by omega
        obtain ⟨wo, rfl⟩ : ∃ wo : World, wo = wr := ⟨_, rfl⟩
        have hs1 := hB.size
        clear SN EX hF
        go_upto_region 6 with (fail)
        go_cut [3, 27] from 27 to 43 (fun p i w' => ∃ b' : Bool, p = .bool b' ∧ i = .int .i64 (k : Int) ∧ w' = wo.alloc (.cells #[.string nm, .slice FA fs.length fcap] 51) ∧ Hid (b' = true ↔ b = true ∨ 8 < fs.length))
        case first =>
          cases b
          · by_cases h8 : 8 < fs.length
            · have h8' : (8 : Int) < (fs.length : Int) := by omega
              replace h8 := Lib.hid h8
              go_wp2_with fail
              go_meet
              exact ⟨true, rfl, rfl, rfl, Lib.hid ⟨fun _ => .inr h8.out, fun _ => rfl⟩⟩
            · have h8' : ¬ (8 : Int) < (fs.length : Int) := by omega
              replace h8 := Lib.hid h8
              go_wp2_with fail
              go_meet
              exact ⟨false, rfl, rfl, rfl, Lib.hid ⟨fun h => (by cases h), fun h => (by rcases h with h | h; cases h; exact absurd h h8.out)⟩⟩
          · go_wp2_with fail
            go_meet
            exact ⟨true, rfl, rfl, rfl, Lib.hid (by simp)⟩
        case rest =>
          obtain ⟨b', rfl, rfl, rfl, HB⟩ := hcut
          go_wp2_with (at_builtin; refine wpList_append_own _ rfl (.tmp 38) (.tmp 41) 23 rfl wc.heap.size 9 i0 (.string ⟨#[]⟩) 1 16 Tryz.underlying23 hi hz0 hz1 hz2 rfl (by decide) u6 k (scells ((ts.map (·.1)).take k)) rfl ((hO.alloc _).alloc _) ⟨wo.heap.size + 1, 0, none⟩ 1 1 [.string nm] rfl rfl ?c1 ?c2 ?c3 ?c4 ?c5 ?_)
          case c2 => rfl
          case c3 => unfold maxLen; omega
          case c4 => omega
          case c5 => first | omega | (simp; omega)
          intro v' w3 hO3 hgrow _
          rw [← SN2.out] at hO3
          have hB3 : Below wc.heap.size wc w3 := ((hB.alloc hs1 _).alloc (by simp; omega) _).grown hgrow (by simp; omega) (fun g hg => (hO.lt g hg).1)
          clear hO hgrow r0 r1 hB hs1 SN2
          go_wp2_with fail
          go_roundw
          case rel => exact ⟨k + 1, b', by omega, rfl, by go_num, hO3, hB3, Lib.hid (by rw [HB.out, EX2.out, H.out, or_assoc])⟩
          case measure => simp [intOf]; omega
      · obtain rfl : k = ts.length := by omega
        have ml : (ts.map (·.1)).length = ts.length := by simp
        rw [← ml, List.take_length] at hO
        obtain ⟨A6, cap6, e6, h61, h62, hS6⟩ := syms_slice (own_scells hO)
        rw [ml] at e6
        subst e6
        replace ml := Lib.hid ml
        have q0 := cell_later hB c0
        clear hO
        cases b
        · have L : ¬ LongP ts ss := fun h => (by
            rcases LE.out.1 h with h | h
            · exact absurd (H.out.2 (.inl (HB0.out.2 h))) (by simp)
            · exact absurd (H.out.2 (.inr h)) (by simp))
          replace L := Lib.hid L
          clear H HB0 LE
          replace hc := Lib.hid (hc.out.later hB)
          replace hs := Lib.hid (hs.out.later hB)
          have hB0 := mmore hu hB
          have q1 := Lib.hid (cell_later hB c1.out)
          replace hS6 := Lib.hid hS6
          replace h61 := Lib.hid h61
          clear hB c1 hk hlt c0 hs0 hu
          obtain ⟨wX, rfl⟩ : ∃ wX : World, wX = wr := ⟨_, rfl⟩
          go_wp2_with fail
          replace q0 := Lib.hid q0
          go_loopw [4, 5, 48] (fun v4 v5 i wr => KR2 wX ts v4 v5 i wr) (fun _ _ i _ => ts.length - (intOf i).toNat)
          case atStart => exact ⟨0, false, false, Nat.zero_le _, rfl, rfl, rfl, Below.refl _ _, Lib.hid ⟨fun h => (by cases h), fun h => absurd h (ExB.zero _ _)⟩, Lib.hid ⟨fun h => (by cases h), fun h => absurd h (ExB.zero _ _)⟩⟩
          case round =>
            obtain ⟨k, b, c, hk, rfl, rfl, rfl, hB, HN, HK⟩ := hrel
            by_cases hlt : k < ts.length
            · have hx : ts[k]? = some ts[k] := List.getElem?_eq_getElem hlt
              have hfb := b2.out _ (List.getElem_mem hlt)
              have EXN := Lib.hid (ExB.step (P := BadT) hx)
              have EXK := Lib.hid (ExB.step (P := KinT) hx)
              generalize ts[k] = x at *
              obtain ⟨nm, fs⟩ := x
              obtain ⟨bb, off, FA, fcap, rfl, r0, r1, hF⟩ := hc.out.at_ hx
              have r0 : _ = some (Value.string nm) := cell_later hB r0
              have r1 : _ = some (Value.slice FA fs.length fcap) := cell_later hB r1
              have hF : FieldsAt wX FA fs := hF
              have hfb : fs.length * 24 ≤ 140737488351232 := hfb
              have EXN2 : ExB BadT ts (k + 1) ↔ ExB BadT ts k ∨ ¬ DistinctP (fs.map (·.1)) := EXN.out
              have EXK2 : ExB KinT ts (k + 1) ↔ ExB KinT ts k ∨ ExB BadK fs fs.length := EXK.out
              replace EXN2 := Lib.hid EXN2
              replace EXK2 := Lib.hid EXK2
              replace hF := Lib.hid hF
              clear hx EXN EXK
              have k0 : (0 : Int) ≤ (k : Int) := by omega
              have k1 : (k : Int) < (ts.length : Int) := by omega
              have hb2 := m1 wr (.cells #[.string nm, .slice FA fs.length fcap] 51)
              obtain ⟨wo, rfl⟩ : ∃ wo : World, wo = wr := ⟨_, rfl⟩
              go_wp2_with fail
              have hBw := mmore hB hb2
              clear r0 r1 hb2 hB
              generalize wo.alloc (.cells #[.string nm, .slice FA fs.length fcap] 51) = wb at *
              go_loopw [5, 11, 55] (fun v5 v11 i wr => KR3 wb fs c v5 v11 i wr) (fun _ _ i _ => fs.length - (intOf i).toNat)
              case atStart => exact ⟨0, c, Nat.zero_le _, rfl, rfl, World.ownsRow_nil _ _ _ _, Below.refl _ _, Lib.hid ⟨fun h => .inl h, fun h => (by rcases h with h | h; exact h; exact absurd h (ExB.zero _ _))⟩⟩
              case round =>
                obtain ⟨j, d, hj, rfl, rfl, hA, hBi, HJ⟩ := hrel
                have hBu := mmore hBw hBi
                by_cases hjl : j < fs.length
                · obtain ⟨fb, foff, rfl, hfc⟩ := (hF.out.later hBu) (by omega)
                  have hy : fs[j]? = some fs[j] := List.getElem?_eq_getElem hjl
                  have SN := Lib.hid (scells_snoc (fun f : SF => f.1) fs j _ hy)
                  have EX := Lib.hid (ExB.step (P := BadK) hy)
                  obtain ⟨r0, r1⟩ := hfc j _ hy
                  generalize fs[j] = y at *
                  obtain ⟨fn, fk⟩ := y
                  have SN2 : scells ((fs.map (·.1)).take (j + 1)) = scells ((fs.map (·.1)).take j) ++ [.string fn] := SN.out
                  replace SN2 := Lib.hid SN2
                  have EX2 : ExB BadK fs (j + 1) ↔ ExB BadK fs j ∨ ¬ (1 ≤ fk ∧ fk ≤ 4) := EX.out
                  replace EX2 := Lib.hid EX2
                  simp only at r0 r1
                  have j0 : (0 : Int) ≤ (j : Int) := by omega
                  have j1 : (j : Int) < (fs.length : Int) := by omega
                  have hs3 := hBi.size
                  clear SN EX hfc hy
                  go_wp2_with (at_builtin; refine wpList_append_own _ rfl (.tmp 59) (.tmp 62) 23 rfl wb.heap.size 9 i0 (.string ⟨#[]⟩) 1 16 Tryz.underlying23 hi hz0 hz1 hz2 rfl (by decide) u11 j (scells ((fs.map (·.1)).take j)) rfl ((hA.alloc _).alloc _) ⟨wr.heap.size + 1, 0, none⟩ 1 1 [.string fn] rfl rfl ?d1 ?d2 ?d3 ?d4 ?d5 ?_)
                  case d2 => rfl
                  case d3 => unfold maxLen; omega
                  case d4 => omega
                  case d5 => first | omega | (simp; omega)
                  intro v11 w4 hA4 hgrow _
                  rw [← SN2.out] at hA4
                  have q1 : w4.cell? ⟨wr.heap.size, 1, none⟩ = some (.int .i64 fk) := hgrow.cell (by simp [go_sem]) (fun e => Nat.lt_irrefl _ (hA.lt _ e.symm).2)
                  have hB4 : Below wb.heap.size wb w4 := ((hBi.alloc hs3 _).alloc (by simp; omega) _).grown hgrow (by simp; omega) (fun g hg => (hA.lt g hg).1)
                  clear hA hgrow r0 r1 hBi hBu hs3 SN2
                  cases d
                  · by_cases l1 : fk < 1
                    · go_wp2_with fail
                      go_roundw
                      case rel => exact ⟨j + 1, true, by omega, rfl, by go_num, hA4, hB4, Lib.hid ⟨fun _ => .inr (EX2.out.2 (.inr (by omega))), fun _ => rfl⟩⟩
                      case measure => simp [intOf]; omega
                    by_cases l4 : 4 < fk
                    · go_wp2_with fail
                      go_roundw
                      case rel => exact ⟨j + 1, true, by omega, rfl, by go_num, hA4, hB4, Lib.hid ⟨fun _ => .inr (EX2.out.2 (.inr (by omega))), fun _ => rfl⟩⟩
                      case measure => simp [intOf]; omega
                    go_wp2_with fail
                    go_roundw
                    case rel => exact ⟨j + 1, false, by omega, rfl, by go_num, hA4, hB4, Lib.hid ⟨fun h => (by cases h), fun h => HJ.out.2 (by
                      rcases h with h | h
                      · exact .inl h
                      · rcases EX2.out.1 h with h | h
                        · exact .inr h
                        · exact absurd ⟨by omega, by omega⟩ h)⟩⟩
                    case measure => simp [intOf]; omega
                  · go_wp2_with fail
                    go_roundw
                    case rel => exact ⟨j + 1, true, by omega, rfl, by go_num, hA4, hB4, Lib.hid ⟨fun _ => (by
                      rcases HJ.out.1 rfl with h | h
                      · exact .inl h
                      · exact .inr (EX2.out.2 (.inl h))), fun _ => rfl⟩⟩
                    case measure => simp [intOf]; omega
                · obtain rfl : j = fs.length := by omega
                  have ml6 : (fs.map (·.1)).length = fs.length := by simp
                  rw [← ml6, List.take_length] at hA
                  obtain ⟨A7, cap7, e7, h71, h72, hS7⟩ := syms_slice (own_scells hA)
                  rw [ml6] at e7
                  subst e7
                  have KD : Hid (d = true ↔ ExB KinT ts (k + 1)) := Lib.hid (by rw [HJ.out, EXK2.out, HK.out])
                  clear hA HJ HK EXK2 hF
                  cases b
                  · have CD := rbad_any A7 cap7 _ wr hS7 (by omega)
                    rw [ml6] at CD
                    replace CD := Lib.hid CD
                    replace ml6 := Lib.hid ml6
                    clear hS7 h71 h72
                    go_wp2_with fail
                    refine CD.out.mono ?_; rintro e w5 ⟨q, rfl, hq, hb5⟩
                    have hB6 := mmore hBu hb5
                    replace hq := Lib.hid hq
                    clear CD hb5
                    go_wp2_with fail
                    go_roundw
                    case rel => exact ⟨k + 1, q, d, by omega, rfl, rfl, by go_num, hB6, Lib.hid (by
                      rw [hq.out, EXN2.out]
                      exact ⟨fun h => .inr h, fun h => (by
                        rcases h with h | h
                        · exact absurd (HN.out.2 h) (by simp)
                        · exact h)⟩), KD⟩
                    case measure => simp [intOf]; omega
                  · replace ml6 := Lib.hid ml6
                    clear hS7 h71 h72
                    go_wp2_with fail
                    go_roundw
                    case rel => exact ⟨k + 1, true, d, by omega, rfl, rfl, by go_num, hBu, Lib.hid ⟨fun _ => EXN2.out.2 (.inl (HN.out.1 rfl)), fun _ => rfl⟩, KD⟩
                    case measure => simp [intOf]; omega
            · obtain rfl : k = ts.length := by omega
              have s1 := cell_later hB q1.out
              cases b
              · have NB : ¬ ExB BadT ts ts.length := fun h => absurd (HN.out.2 h) (by simp)
                have CD := rbad_any A6 cap6 _ wr (hS6.out.later hB) (by rw [ml.out]; omega)
                rw [ml.out] at CD
                replace CD := Lib.hid CD
                have CS := fun w h => rbad_any B capB ss w h bs
                replace CS := Lib.hid CS
                replace NB := Lib.hid NB
                clear HN
                go_wp2_with fail
                refine CD.out.mono ?_; rintro e w5 ⟨q, rfl, hq, hb5⟩
                have hB6 := mmore hB hb5
                have s1 := cell_later hb5 s1
                clear CD hb5
                cases q
                · have D1 : DistinctP (ts.map (·.1)) := by simpa using hq
                  replace D1 := Lib.hid D1
                  clear hq
                  go_wp2_with fail
                  refine (CS.out _ (hs.out.later hB6)).mono ?_; rintro e w6 ⟨q, rfl, hq, hb5⟩
                  have hB7 := mmore hB6 hb5
                  clear CS hb5
                  cases q
                  · have D2 : DistinctP ss := by simpa using hq
                    have W : WellP ts ss := WE.out.2 ⟨NB.out, D1.out, D2⟩
                    replace W := Lib.hid W
                    clear hq D2
                    cases c
                    · have K : KindsP ts := KE.out.2 (fun h => absurd (HK.out.2 h) (by simp))
                      replace K := Lib.hid K
                      clear HK
                      go_wp2_with fail
                      go_ret
                      exact ⟨0, rfl, .inr (.inr (.inr ⟨L.out, W.out, K.out, rfl⟩)), mmore hB0 hB7⟩
                    · have K : ¬ KindsP ts := fun h => KE.out.1 h (HK.out.1 rfl)
                      replace K := Lib.hid K
                      clear HK
                      go_wp2_with fail
                      go_ret
                      exact ⟨11, rfl, .inr (.inr (.inl ⟨L.out, W.out, K.out, rfl⟩)), mmore hB0 hB7⟩
                  · have D2 : ¬ DistinctP ss := by simpa using hq
                    have W : ¬ WellP ts ss := fun h => D2 (WE.out.1 h).2.2
                    replace W := Lib.hid W
                    clear hq D2
                    go_wp2_with fail
                    go_ret
                    exact ⟨10, rfl, .inr (.inl ⟨L.out, W.out, rfl⟩), mmore hB0 hB7⟩
                · have D1 : ¬ DistinctP (ts.map (·.1)) := by simpa using hq
                  have W : ¬ WellP ts ss := fun h => D1 (WE.out.1 h).2.1
                  replace W := Lib.hid W
                  clear hq D1
                  go_wp2_with fail
                  go_ret
                  exact ⟨10, rfl, .inr (.inl ⟨L.out, W.out, rfl⟩), mmore hB0 hB6⟩
              · have W : ¬ WellP ts ss := fun h => (WE.out.1 h).1 (HN.out.1 rfl)
                replace W := Lib.hid W
                clear HN
                go_wp2_with fail
                go_ret
                exact ⟨10, rfl, .inr (.inl ⟨L.out, W.out, rfl⟩), mmore hB0 hB⟩
        · have L : LongP ts ss := LE.out.2 (by
            rcases H.out.1 rfl with h | h
            · exact .inl (HB0.out.1 h)
            · exact .inr h)
          replace L := Lib.hid L
          clear H HB0 LE
          go_wp2_with fail
          go_ret
          exact ⟨2, rfl, .inl ⟨L.out, rfl⟩, mmore hu hB⟩
end Go.Proofs.YtkmlbifhpkfinaaGreatDoor
