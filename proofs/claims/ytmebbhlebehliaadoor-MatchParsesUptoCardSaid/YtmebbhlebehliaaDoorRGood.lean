/- Which matches are well made: the document's Good, as a contract. -/
import Derived.Test.YtmebbhlebehliaaDoorGoodQ
import Derived.Test.YtmebbhlebehliaaDoorTwin
import Derived.Deep.QuietTactic
import Derived.BigQuiet
namespace Go.Proofs.YtmebbhlebehliaaDoor
open Go.ChangeShapes Go.WideShapes Go.ChangeAt Go.RowKit
set_option linter.unusedVariables false
set_option linter.unusedSimpArgs false

def prevAt (l : List Int) (k : Nat) : Int := if k = 0 then -1 else l.getD (k - 1) 0
theorem bdrewNr {B : Nat} {a w : World} (h : Below B a w) (n : Nat) : Below B a (w.drewN n) := ⟨h.os, h.tape, h.output, h.size, h.block⟩
theorem full_at {bs : List (List Int)} {k : Nat} (h : k < bs.length) : fullB (bs.drop k) = (decide (0 < (bs[k]).length) && fullB (bs.drop (k + 1))) := by
  rw [drop_at h]; rfl
theorem flat_snoc {bs : List (List Int)} {k : Nat} (h : k < bs.length) : (bs.take (k + 1)).flatten = (bs.take k).flatten ++ bs[k] := by
  rw [List.take_add_one, List.getElem?_eq_getElem h]
  simp only [Option.toList_some, List.flatten_append, List.flatten_cons, List.flatten_nil, List.append_nil]
theorem flat_le (bs : List (List Int)) (k : Nat) : (bs.take k).flatten.length ≤ bs.flatten.length := by
  have h : bs.flatten = (bs.take k).flatten ++ (bs.drop k).flatten := by rw [← List.flatten_append, List.take_append_drop]
  rw [h, List.length_append]
  omega

set_option maxHeartbeats 8000000 in
set_option maxRecDepth 100000 in
theorem rgood_any (A : Option Addr) (cap : Nat) (st br : Int) (bs : List (List Int)) (n : Int) (w : World) (hA : RowsAt w A bs) (hx : bs.length ≤ 9223372036854775806) (hx2 : ∀ l ∈ bs, l.length ≤ 9223372036854775806) (htot : bs.flatten.length * 8 ≤ 140737488355328) :
    Calls Tryd.prog 17 #[matV st br A bs.length cap, .int .i64 n] w fun e w' => e = .returned (.bool (goodP st br bs n)) ∧ Below w.heap.size w w' := by
  obtain ⟨i0, hi, hz0, hz1, hz2⟩ := info_parts infoI
  rw [good_eq]
  have bu := m1 w (matO st br A bs.length cap)
  have hA1 := Lib.hid (hA.later bu)
  have c0 : (w.alloc (matO st br A bs.length cap)).cell? ⟨w.heap.size, 0, none⟩ = some (.int .i64 st) := by simp [go_sem]
  have c1 : (w.alloc (matO st br A bs.length cap)).cell? ⟨w.heap.size, 1, none⟩ = some (.int .i64 br) := by simp [go_sem]
  have c2 : (w.alloc (matO st br A bs.length cap)).cell? ⟨w.heap.size, 2, none⟩ = some (.slice A bs.length cap) := by simp [go_sem]
  replace hx2 := Lib.hid hx2
  clear hA
  go_enter Tryd.func17, Tryd.ntmps17
  go_upto_region 2 with (fail)
  generalize w.alloc (matO st br A bs.length cap) = u at *
  go_cut [6] from 11 to 20 (fun v w' => v = .bool (decide (0 ≤ br) && decide (0 < bs.length)) ∧ u = w')
  case first =>
    by_cases hb : 0 ≤ br
    · have hl : ((bs.length : Int) > 0) ↔ 0 < bs.length := by omega
      by_cases hp : 0 < bs.length
      · have hp1 : (bs.length : Int) > 0 := by omega
        go_wp2_with fail
        go_meet
        exact ⟨by simp [hb, hp], rfl⟩
      · have hp1 : ¬ (bs.length : Int) > 0 := by omega
        go_wp2_with fail
        go_meet
        exact ⟨by simp [hb, hp], rfl⟩
    · go_wp2_with fail
      go_meet
      exact ⟨by have hb2 : ¬ (0 ≤ br) := by omega
                rw [decide_eq_false hb2]; rfl, rfl⟩
  case rest =>
    obtain ⟨rfl, rfl⟩ := hcut
    obtain ⟨q0, hq0⟩ : ∃ q, (decide (0 ≤ br) && decide (0 < bs.length)) = q := ⟨_, rfl⟩
    rw [hq0]
    have hk0 : q0 = true → 0 < bs.length := fun h => by rw [h] at hq0; simp at hq0; exact hq0.2
    replace hq0 := Lib.hid hq0
    replace hk0 := Lib.hid hk0
    go_wp2_with fail
    go_loopw [5, 6, 23] (fun v o i wr => ∃ (k : Nat) (q : Bool), k ≤ bs.length ∧ i = .int .i64 (k : Int) ∧ o = .bool q ∧ (q0 && fullB bs) = (q && fullB (bs.drop k)) ∧ wr.ownsRow u.heap.size 3 1 v ((bs.take k).flatten).length (icells (bs.take k).flatten) ∧ Below u.heap.size u wr) (fun _ _ i _ => bs.length - (intOf i).toNat)
    case atStart => exact ⟨0, q0, Nat.zero_le _, rfl, rfl, rfl, World.ownsRow_nil _ _ _ _, Below.refl _ _⟩
    case round =>
      obtain ⟨k, q, hk, rfl, rfl, hq, hO, hB⟩ := hrel
      have k0 : (0 : Int) ≤ (k : Int) := by omega
      by_cases hlt : k < bs.length
      · have k1 : (k : Int) < (bs.length : Int) := by omega
        obtain ⟨b, off, rfl, hc⟩ := hA1.out (by omega)
        obtain ⟨uu, r0, A2, c9, rfl, hI⟩ := hc k _ (List.getElem?_eq_getElem hlt)
        have r0 := cell_later hB r0
        have hI := hI.later hB
        rw [full_at hlt] at hq
        have hfl := flat_snoc hlt
        have hle := flat_le bs (k + 1)
        have hl := hx2.out _ (List.getElem_mem hlt)
        clear hc
        generalize bs[k] = xs at *
        rw [hfl, List.length_append] at hle
        have hRd := Lib.hid (reads_ints hI)
        have l1 : (bs.take k).flatten.length + xs.length ≤ maxLen := by unfold maxLen; omega
        have l2 : ((bs.take k).flatten.length + xs.length) * 8 ≤ 140737488355328 := by omega
        obtain ⟨f, hf⟩ : ∃ f, decide (0 < xs.length) = f := ⟨_, rfl⟩
        rw [hf] at hq
        have hnext : (q0 && fullB bs) = ((q && f) && fullB (bs.drop (k + 1))) := by rw [hq, Bool.and_assoc]
        replace hnext := Lib.hid hnext
        replace hfl := Lib.hid hfl
        clear hq hI hle
        go_upto_region 6 with (fail)
        go_cut [6] from 27 to 33 (fun v w' => v = .bool (q && f) ∧ wr = w')
        case first =>
          cases q
          · go_wp2_with fail
            go_meet
            exact ⟨rfl, rfl⟩
          · by_cases hp : 0 < xs.length
            · have hp1 : (xs.length : Int) > 0 := by omega
              have hf1 : f = true := by rw [← hf]; simpa using hp
              replace hf1 := Lib.hid hf1
              clear hf
              go_wp2_with fail
              go_meet
              exact ⟨by rw [hf1.out]; rfl, rfl⟩
            · have hp1 : ¬ (xs.length : Int) > 0 := by omega
              have hf1 : f = false := by rw [← hf]; simpa using hp
              replace hf1 := Lib.hid hf1
              clear hf
              go_wp2_with fail
              go_meet
              exact ⟨by rw [hf1.out]; rfl, rfl⟩
        case rest =>
          obtain ⟨rfl, rfl⟩ := hcut
          generalize (q && f) = q2 at *
          go_upto_region 7 with (fail)
          refine wp_region_lit ?_
          refine wpList_plain rfl fun K hK => ?_
          go_simp
          refine hK _ _ ?_
          clear hK
          refine wpList_plain rfl fun K hK => ?_
          go_simp
          refine hK _ _ ?_
          clear hK
          refine wpList_append_any _ rfl (.tmp 33) (.tmp 34) 34 rfl u.heap.size 3 i0 (.int .i64 0) 1 8 Tryd.underlying34 hi hz0 hz1 hz2 rfl (by decide) _ _ _ rfl hO _ A2 xs.length c9 (icells xs) rfl hRd.out (icells_one xs) l1 l2 hB.size ?_
          intro v1 w1 ho1 hg1 _
          have hb1 := below_grown hB (Nat.le_refl _) hO hg1
          have ho2 : w1.ownsRow u.heap.size 3 1 v1 ((bs.take (k + 1)).flatten).length (icells (bs.take (k + 1)).flatten) := by
            rw [hfl.out, List.length_append]
            simpa [icells] using ho1
          replace ho2 := Lib.hid ho2
          replace hb1 := Lib.hid hb1
          clear ho1 hg1 hO hB
          go_wp2_with fail
          go_roundw
          case rel => exact ⟨k + 1, q2, by omega, by go_num, rfl, hnext.out, ho2.out, hb1.out⟩
          case measure => simp [intOf]; omega
      · have hke : k = bs.length := by omega
        have k1 : ¬ (k : Int) < (bs.length : Int) := by omega
        subst hke
        rw [drop_end hlt] at hq
        rw [List.take_of_length_le (Nat.le_refl _)] at hO
        have hq2 : (q0 && fullB bs) = q := by rw [hq]; simp [fullB]
        obtain ⟨F, hF⟩ : ∃ F, F = bs.flatten := ⟨_, rfl⟩
        rw [← hF] at hO
        obtain ⟨va, vc, rfl⟩ := slice_of hO
        have hIa := Lib.hid (own_at hO rfl)
        have hne : q = true → 0 < bs.flatten.length := fun h => by
          rw [h] at hq2
          simp at hq2
          have hb := hk0.out hq2.1
          obtain ⟨l, r, e⟩ : ∃ l r, bs = l :: r := by cases bs with | nil => simp at hb | cons l r => exact ⟨l, r, rfl⟩
          have hf := hq2.2
          rw [e] at hf ⊢
          simp [fullB] at hf
          have := hf.1
          rw [List.flatten_cons, List.length_append]
          omega
        have hres : (decide (0 ≤ br) && decide (0 < bs.length) && fullB bs && chkF n (-1) bs.flatten && decide (st ≤ n) && decide (lastZ bs.flatten ≤ st)) = ((q && chkF n (-1) F) && decide (st ≤ n) && decide (lastZ F ≤ st)) := by rw [hq0.out, hq2, hF]
        replace hres := Lib.hid hres
        rw [← hF] at hne
        have hFl : F.length ≤ 17592186044416 := by rw [hF]; omega
        clear hF
        have hBz := Lib.hid (mmore bu hB)
        have e0 := cell_later hB c0
        clear hq hq2 hO hB hlt k1 k0 hk c1 c2
        replace hne := Lib.hid hne
        go_wp2_with fail
        go_loopw [6, 39] (fun o i wr2 => ∃ (j : Nat) (p : Bool), j ≤ F.length ∧ i = .int .i64 (j : Int) ∧ o = .bool p ∧ (q && chkF n (-1) F) = (p && chkF n (prevAt F j) (F.drop j)) ∧ (p = true → q = true) ∧ wr = wr2) (fun _ i _ => F.length - (intOf i).toNat)
        case atStart => exact ⟨0, q, Nat.zero_le _, rfl, rfl, rfl, fun h => h, rfl⟩
        case round =>
          obtain ⟨j, p, hj, rfl, rfl, hp, hpq, rfl⟩ := hrel
          have j0 : (0 : Int) ≤ (j : Int) := by omega
          by_cases hjl : j < F.length
          · have j1 : (j : Int) < (F.length : Int) := by omega
            obtain ⟨b, off, rfl, hc⟩ := hIa.out (by omega)
            have r1 := hc j _ (List.getElem?_eq_getElem hjl)
            have r2 : 0 < j → wr.cell? ⟨b, off + (j - 1), none⟩ = some (.int .i64 (prevAt F j)) := fun h => by
              unfold prevAt
              rw [if_neg (by omega)]
              exact hc (j - 1) _ (by rw [List.getD_eq_getElem?_getD, List.getElem?_eq_getElem (by omega : j - 1 < F.length)]; rfl)
            have hpv : prevAt F (j + 1) = F[j] := by unfold prevAt; rw [if_neg (by omega), List.getD_eq_getElem?_getD, Nat.add_sub_cancel, List.getElem?_eq_getElem hjl]; rfl
            have hp0 : j = 0 → prevAt F j = -1 := fun h => by unfold prevAt; rw [if_pos h]
            rw [drop_at hjl] at hp
            simp only [chkF] at hp
            clear hc
            rw [← hpv] at hp r1
            clear hpv
            generalize hxx : prevAt F (j + 1) = x at *
            generalize prevAt F j = pv at *
            obtain ⟨g, hg⟩ : ∃ g, (decide (0 ≤ x) && decide (x < n) && decide (pv < x)) = g := ⟨_, rfl⟩
            have hnext : (q && chkF n (-1) F) = ((p && g) && chkF n (prevAt F (j + 1)) (F.drop (j + 1))) := by rw [hxx, hp, ← hg]; simp only [Bool.and_assoc]
            have hnext2 : (p && g) = true → q = true := fun h => hpq (by simp at h; exact h.1)
            replace hnext := Lib.hid hnext
            replace hnext2 := Lib.hid hnext2
            replace r2 := Lib.hid r2
            replace hp0 := Lib.hid hp0
            clear hp hpq hxx
            cases p
            · clear hg
              go_wp2_with fail
              go_roundw
              case rel => exact ⟨j + 1, false, by omega, by go_num, rfl, by rw [hnext.out]; rfl, (fun h => nomatch h), by first | rfl | trivial⟩
              case measure => simp [intOf]; omega
            · by_cases hx0 : 0 ≤ x
              · by_cases hxn : x < n
                · by_cases hj0 : j = 0
                  · have hpv := hp0.out hj0
                    have hgt : g = true := by rw [← hg, hpv]; simp [hx0, hxn]; omega
                    have hn2 : true = true → q = true := fun _ => hnext2.out (by rw [hgt]; rfl)
                    replace hgt := Lib.hid hgt
                    replace hn2 := Lib.hid hn2
                    clear hg hpv
                    subst hj0
                    rw [Nat.add_zero] at r1
                    go_wp2_with fail
                    go_roundw
                    case rel => exact ⟨0 + 1, true, by omega, by first | go_num | rfl | simp, rfl, by rw [hnext.out, hgt.out]; rfl, hn2.out, by first | rfl | trivial⟩
                    case measure => simp [intOf]; omega
                  · have r3 := r2.out (by omega)
                    have hjb : ((j : Int) == 0) = false := by rw [beq_eq_false_iff_ne]; omega
                    have wj : IntKind.i64.wrap ((j : Int) - 1) = ((j - 1 : Nat) : Int) := by rw [IntKind.wrap_i64]; omega
                    have j2 : (0 : Int) ≤ ((j - 1 : Nat) : Int) := by omega
                    have j3 : ((j - 1 : Nat) : Int) < (F.length : Int) := by omega
                    by_cases hlt : pv < x
                    · have hgt : g = true := by rw [← hg]; simp [hx0, hxn, hlt]
                      have hn2 : true = true → q = true := fun _ => hnext2.out (by rw [hgt]; rfl)
                      replace hgt := Lib.hid hgt
                      replace hn2 := Lib.hid hn2
                      clear hg hj0
                      go_wp2_with fail
                      go_roundw
                      case rel => exact ⟨j + 1, true, by omega, by go_num, rfl, by rw [hnext.out, hgt.out]; rfl, hn2.out, by first | rfl | trivial⟩
                      case measure => simp [intOf]; omega
                    · have hgt : g = false := by rw [← hg]; simp [hx0, hxn, hlt]
                      replace hgt := Lib.hid hgt
                      clear hg hj0
                      go_wp2_with fail
                      go_roundw
                      case rel => exact ⟨j + 1, false, by omega, by go_num, rfl, by rw [hnext.out, hgt.out]; rfl, (fun h => nomatch h), by first | rfl | trivial⟩
                      case measure => simp [intOf]; omega
                · have hgt : g = false := by rw [← hg]; simp [hxn]
                  replace hgt := Lib.hid hgt
                  clear hg
                  go_wp2_with fail
                  go_roundw
                  case rel => exact ⟨j + 1, false, by omega, by go_num, rfl, by rw [hnext.out, hgt.out]; rfl, (fun h => nomatch h), by first | rfl | trivial⟩
                  case measure => simp [intOf]; omega
              · have hgt : g = false := by rw [← hg]; simp [hx0]
                replace hgt := Lib.hid hgt
                clear hg
                go_wp2_with fail
                go_roundw
                case rel => exact ⟨j + 1, false, by omega, by go_num, rfl, by rw [hnext.out, hgt.out]; rfl, (fun h => nomatch h), by first | rfl | trivial⟩
                case measure => simp [intOf]; omega
          · have hje : j = F.length := by omega
            have j1 : ¬ (j : Int) < (F.length : Int) := by omega
            subst hje
            rw [drop_end hjl] at hp
            have hp2 : (q && chkF n (-1) F) = p := by rw [hp]; simp [chkF]
            replace hp2 := Lib.hid hp2
            have hlz : 0 < F.length → ∃ b off, va = some ⟨b, off, none⟩ ∧ wr.cell? ⟨b, off + (F.length - 1), none⟩ = some (.int .i64 (lastZ F)) := fun h => by
              obtain ⟨b, off, rfl, hc⟩ := hIa.out h
              exact ⟨b, off, rfl, hc (F.length - 1) _ (by unfold lastZ; rw [List.getD_eq_getElem?_getD, List.getElem?_eq_getElem (by omega : F.length - 1 < F.length)]; rfl)⟩
            generalize lastZ F = z at *
            replace hlz := Lib.hid hlz
            cases p
            · go_wp2_with fail
              go_quiet (fail)
              go_wp2
              go_ret
              exact ⟨sret_bool (by rw [hres.out, hp2.out]; rfl), bdrewNr hBz.out _⟩
            · have hF0 := hne.out (hpq rfl)
              obtain ⟨b, off, rfl, cz⟩ := hlz.out hF0
              have wj : IntKind.i64.wrap ((F.length : Int) - 1) = ((F.length - 1 : Nat) : Int) := by rw [IntKind.wrap_i64]; omega
              have j2 : (0 : Int) ≤ ((F.length - 1 : Nat) : Int) := by omega
              have j3 : ((F.length - 1 : Nat) : Int) < (F.length : Int) := by omega
              by_cases hst : st ≤ n
              · have d1 : decide (st ≤ n) = true := by simpa using hst
                by_cases hzt : z ≤ st
                · have d2 : decide (st ≥ z) = true := by simpa using hzt
                  have d3 : decide (z ≤ st) = true := by simpa using hzt
                  clear hst hzt
                  go_wp2_with fail
                  go_quiet (fail)
                  go_wp2
                  go_ret
                  exact ⟨sret_bool (by rw [hres.out, hp2.out, d1, d3]; rfl), bdrewNr hBz.out _⟩
                · have d2 : decide (st ≥ z) = false := by simpa using hzt
                  have d3 : decide (z ≤ st) = false := by simpa using hzt
                  clear hst hzt
                  go_wp2_with fail
                  go_quiet (fail)
                  go_wp2
                  go_ret
                  exact ⟨sret_bool (by rw [hres.out, hp2.out, d1, d3]; rfl), bdrewNr hBz.out _⟩
              · have d1 : decide (st ≤ n) = false := by simpa using hst
                clear hst
                go_wp2_with fail
                go_quiet (fail)
                go_wp2
                go_ret
                exact ⟨sret_bool (by rw [hres.out, hp2.out, d1]; rfl), bdrewNr hBz.out _⟩
end Go.Proofs.YtmebbhlebehliaaDoor
