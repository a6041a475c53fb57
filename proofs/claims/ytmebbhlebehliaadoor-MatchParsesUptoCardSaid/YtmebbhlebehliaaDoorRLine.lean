/- The line of a match: the document's Line, as a contract. -/
import Derived.Test.YtmebbhlebehliaaDoorRGood
import Derived.Test.YtmebbhlebehliaaDoorRDec
import Derived.Test.YtmebbhlebehliaaDoorInvG
import Derived.Test.YtmebbhlebehliaaDoorLine
namespace Go.Proofs.YtmebbhlebehliaaDoor
open Go.ChangeShapes Go.WideShapes Go.ChangeAt Go.RowKit
set_option linter.unusedVariables false
set_option linter.unusedSimpArgs false

theorem lineKeep {w0 w1 w2 : World} {A : Option Addr} {p1 : List (List Int)} {a0 a1 a2 : Addr} {v0 v1 v2 : Value} (hb : Below w1.heap.size w1 w2)
    (h : w1.cell? a0 = some v0 ∧ w1.cell? a1 = some v1 ∧ w1.cell? a2 = some v2 ∧ RowsAt w1 A p1 ∧ Below w0.heap.size w0 w1) :
    w2.cell? a0 = some v0 ∧ w2.cell? a1 = some v1 ∧ w2.cell? a2 = some v2 ∧ RowsAt w2 A p1 ∧ Below w0.heap.size w0 w2 :=
  ⟨cell_later hb h.1, cell_later hb h.2.1, cell_later hb h.2.2.1, h.2.2.2.1.later hb, mmore h.2.2.2.2 hb⟩
theorem lineKeepDrew {w0 w1 : World} {A : Option Addr} {p1 : List (List Int)} {a0 a1 a2 : Addr} {v0 v1 v2 : Value}
    (h : w1.cell? a0 = some v0 ∧ w1.cell? a1 = some v1 ∧ w1.cell? a2 = some v2 ∧ RowsAt w1 A p1 ∧ Below w0.heap.size w0 w1) :
    w1.drew.cell? a0 = some v0 ∧ w1.drew.cell? a1 = some v1 ∧ w1.drew.cell? a2 = some v2 ∧ RowsAt w1.drew A p1 ∧ Below w0.heap.size w0 w1.drew :=
  lineKeep (Below.refl _ _).drew h
theorem txt_size (l : List UInt8) : (⟨l.toArray⟩ : ByteArray).size = l.length := by simp [ByteArray.size]

set_option maxHeartbeats 8000000 in
set_option maxRecDepth 100000 in
theorem rline_any (A : Option Addr) (cap : Nat) (st br : Int) (bs : List (List Int)) (w : World) (hA : RowsAt w A bs) (hx : bs.length ≤ 9223372036854775806) (hx2 : ∀ l ∈ bs, l.length ≤ 9223372036854775806) (htot : bs.flatten.length * 8 ≤ 140737488355328)
    (s0 : -9223372036854775808 ≤ st) (s1 : st ≤ 9223372036854775807) (r0 : -9223372036854775808 ≤ br) (r1 : br ≤ 9223372036854775807) (hlim : (lineB st br bs).length + 64 ≤ 140737488355328) :
    Calls Tryd.prog 8 #[matV st br A bs.length cap] w fun e w' => e = .returned (.string (lineOf st br bs)) ∧ Below w.heap.size w w' := by
  have bu := m1 w (matO st br A bs.length cap)
  have hA1 := hA.later bu
  have c0 : (w.alloc (matO st br A bs.length cap)).cell? ⟨w.heap.size, 0, none⟩ = some (.int .i64 st) := by simp [go_sem]
  have c1 : (w.alloc (matO st br A bs.length cap)).cell? ⟨w.heap.size, 1, none⟩ = some (.int .i64 br) := by simp [go_sem]
  have c2 : (w.alloc (matO st br A bs.length cap)).cell? ⟨w.heap.size, 2, none⟩ = some (.slice A bs.length cap) := by simp [go_sem]
  have LO : goodP st br bs 9223372036854775807 = true → lineOf st br bs = ⟨(lineB st br bs).toArray⟩ := fun h => by unfold lineOf; rw [if_pos h]
  have LN : goodP st br bs 9223372036854775807 = false → lineOf st br bs = ⟨#[]⟩ := fun h => by unfold lineOf; rw [if_neg (by rw [h]; decide)]
  have hrange := @good_range st br bs 9223372036854775807
  have hG := fun w hA => rgood_any A cap st br bs 9223372036854775807 w hA hx hx2 htot
  have D1 := fun w' => rdecimal_any st w' s0 s1
  have D2 := fun w' => rdecimal_any br w' r0 r1
  have z1 := txt_size (Lib.itoa st)
  have z2 := txt_size (Lib.itoa br)
  have hst : (⟨(Lib.itoa st).toArray⟩ : ByteArray).data.toList ++ (32 :: ((⟨(Lib.itoa br).toArray⟩ : ByteArray).data.toList ++ (58 :: partsB 0 bs))) = lineB st br bs := by simp [lineB]
  generalize lineOf st br bs = LL at *
  have hL : (Lib.itoa st).length + 1 + (Lib.itoa br).length + 1 + (partsB 0 bs).length = (lineB st br bs).length := by simp [lineB]; omega
  generalize lineB st br bs = FL at *
  generalize goodP st br bs 9223372036854775807 = G at *
  generalize (⟨(Lib.itoa st).toArray⟩ : ByteArray) = T1 at *
  generalize (⟨(Lib.itoa br).toArray⟩ : ByteArray) = T2 at *
  rw [← z1, ← z2] at hL
  have t1 : ¬ 9223372036854775807 < T1.size + 1 := by omega
  have t2 : ¬ 9223372036854775807 < T1.size + 1 + T2.size := by omega
  have t3 : ¬ 9223372036854775807 < T1.size + 1 + T2.size + 1 := by omega
  replace hG := Lib.hid hG
  replace LO := Lib.hid LO
  replace LN := Lib.hid LN
  replace D1 := Lib.hid D1
  replace D2 := Lib.hid D2
  replace hrange := Lib.hid hrange
  replace hst := Lib.hid hst
  replace hx2 := Lib.hid hx2
  clear hA z1 z2 hL htot
  go_enter Tryd.func8, Tryd.ntmps8
  go_wp2_with fail
  generalize w.alloc (matO st br A bs.length cap) = u at *
  refine (hG.out u hA1).mono ?_; rintro e w1 ⟨rfl, hb1⟩
  cases G
  · obtain rfl := LN.out rfl
    go_wp2_with fail
    go_ret
    exact ⟨rfl, mmore bu hb1⟩
  · obtain rfl := LO.out rfl
    have hr := hrange.out rfl
    have base : w1.cell? ⟨w.heap.size, 0, none⟩ = some (.int .i64 st) ∧ w1.cell? ⟨w.heap.size, 1, none⟩ = some (.int .i64 br) ∧ w1.cell? ⟨w.heap.size, 2, none⟩ = some (.slice A bs.length cap) ∧ RowsAt w1 A bs ∧ Below u.heap.size u w1 :=
      ⟨cell_later hb1 c0, cell_later hb1 c1, cell_later hb1 c2, hA1.later hb1, hb1⟩
    clear hG LO LN hrange hA1 c0 c1 c2 hb1
    replace hr := Lib.hid hr
    go_wp2_with fail
    have KD := G.keepsD_true []
    refine G.region_words (fun w' => w'.cell? ⟨w.heap.size, 0, none⟩ = some (.int .i64 st) ∧ w'.cell? ⟨w.heap.size, 1, none⟩ = some (.int .i64 br) ∧ w'.cell? ⟨w.heap.size, 2, none⟩ = some (.slice A bs.length cap) ∧ RowsAt w' A bs ∧ Below u.heap.size u w') [G.isW (.pointer (some ⟨w.heap.size, 0, none⟩)), G.isW (.int .i64 st), G.isW (.string T1), G.isW (.string (T1 ++ (⟨#[32]⟩ : ByteArray))), G.isW (.pointer (some ⟨w.heap.size, 1, none⟩)), G.isW (.int .i64 br), G.isW (.string T2), G.isW (.string (T1 ++ (⟨#[32]⟩ : ByteArray) ++ T2)), G.isW (.string (T1 ++ (⟨#[32]⟩ : ByteArray) ++ T2 ++ (⟨#[58]⟩ : ByteArray))), G.isW (.string (T1 ++ (⟨#[32]⟩ : ByteArray) ++ T2 ++ (⟨#[58]⟩ : ByteArray)))] (by kernel_rfl) (by repeat' (first | exact G.monoL_nil | exact G.is_mono _ | exact G.any_mono | refine G.monoL_cons ?_ ?_)) (by kernel_rfl) (by kernel_rfl) (fun _ _ h hb => lineKeep hb h) (lineKeepDrew base) ?_ ?_
    · intro KC
      refine G.stepsL_cons (fun a u hc hdd hd hk hdep => ?_) ?_
      ·
        have d1 : (a.tmps[1]?).getD undef = (.pointer (some ⟨w.heap.size, 0, none⟩)) := hk 1 (by kernel_rfl)
        refine G.step_val KC KD hc hdd rfl (.pointer (some ⟨w.heap.size, 0, none⟩)) u (G.wanted_plain rfl) ?_ rfl (Below.refl _ _)
        first | (go_simp; done) | rfl | (simp [go_sem, *]; done)
      refine G.stepsL_cons (fun a u hc hdd hd hk hdep => ?_) ?_
      ·
        have d11 : (a.tmps[11]?).getD undef = (.pointer (some ⟨w.heap.size, 0, none⟩)) := hdep ⟨0, .data⟩ (by simp) rfl
        refine G.step_val KC KD hc hdd rfl (.int .i64 st) u (G.wanted_plain rfl) ?_ rfl (Below.refl _ _)
        obtain ⟨s0, s1, s2, -, -⟩ := hc
        first | (go_simp; done) | rfl | (simp [go_sem, *]; done)
      refine G.stepsL_cons (fun a u hc hdd hd hk hdep => ?_) ?_
      ·
        have d12 : (a.tmps[12]?).getD undef = (.int .i64 st) := hdep ⟨1, .data⟩ (by simp) rfl
        refine G.step_call KC KD hc hdd rfl 18 #[.int .i64 st] (G.wanted_plain rfl) (by first | (go_simp; done) | rfl) ?_
        exact (D1.out u).mono (by rintro e w' ⟨rfl, hb⟩; exact ⟨_, rfl, rfl, hb⟩)
      refine G.stepsL_cons (fun a u hc hdd hd hk hdep => ?_) ?_
      ·
        have d13 : (a.tmps[13]?).getD undef = (.string T1) := hdep ⟨2, .data⟩ (by simp) rfl
        refine G.step_val KC KD hc hdd rfl (.string (T1 ++ (⟨#[32]⟩ : ByteArray))) u (G.wanted_plain rfl) ?_ rfl (Below.refl _ _)
        first | (go_simp; done) | rfl | (simp [go_sem, *]; done)
      refine G.stepsL_cons (fun a u hc hdd hd hk hdep => ?_) ?_
      ·
        have d1 : (a.tmps[1]?).getD undef = (.pointer (some ⟨w.heap.size, 0, none⟩)) := hk 1 (by kernel_rfl)
        refine G.step_val KC KD hc hdd rfl (.pointer (some ⟨w.heap.size, 1, none⟩)) u (G.wanted_plain rfl) ?_ rfl (Below.refl _ _)
        first | (go_simp; done) | rfl | (simp [go_sem, *]; done)
      refine G.stepsL_cons (fun a u hc hdd hd hk hdep => ?_) ?_
      ·
        have d15 : (a.tmps[15]?).getD undef = (.pointer (some ⟨w.heap.size, 1, none⟩)) := hdep ⟨4, .data⟩ (by simp) rfl
        refine G.step_val KC KD hc hdd rfl (.int .i64 br) u (G.wanted_plain rfl) ?_ rfl (Below.refl _ _)
        obtain ⟨s0, s1, s2, -, -⟩ := hc
        first | (go_simp; done) | rfl | (simp [go_sem, *]; done)
      refine G.stepsL_cons (fun a u hc hdd hd hk hdep => ?_) ?_
      ·
        have d16 : (a.tmps[16]?).getD undef = (.int .i64 br) := hdep ⟨5, .data⟩ (by simp) rfl
        refine G.step_call KC KD hc hdd rfl 18 #[.int .i64 br] (G.wanted_plain rfl) (by first | (go_simp; done) | rfl) ?_
        exact (D2.out u).mono (by rintro e w' ⟨rfl, hb⟩; exact ⟨_, rfl, rfl, hb⟩)
      refine G.stepsL_cons (fun a u hc hdd hd hk hdep => ?_) ?_
      ·
        have d14 : (a.tmps[14]?).getD undef = (.string (T1 ++ (⟨#[32]⟩ : ByteArray))) := hdep ⟨3, .data⟩ (by simp) rfl
        have d17 : (a.tmps[17]?).getD undef = (.string T2) := hdep ⟨6, .data⟩ (by simp) rfl
        refine G.step_val KC KD hc hdd rfl (.string (T1 ++ (⟨#[32]⟩ : ByteArray) ++ T2)) u (G.wanted_plain rfl) ?_ rfl (Below.refl _ _)
        first | (go_simp; done) | rfl | (simp [go_sem, *]; done)
      refine G.stepsL_cons (fun a u hc hdd hd hk hdep => ?_) ?_
      ·
        have d18 : (a.tmps[18]?).getD undef = (.string (T1 ++ (⟨#[32]⟩ : ByteArray) ++ T2)) := hdep ⟨7, .data⟩ (by simp) rfl
        refine G.step_val KC KD hc hdd rfl (.string (T1 ++ (⟨#[32]⟩ : ByteArray) ++ T2 ++ (⟨#[58]⟩ : ByteArray))) u (G.wanted_plain rfl) ?_ rfl (Below.refl _ _)
        first | (go_simp; done) | rfl | (simp [go_sem, *]; done)
      refine G.stepsL_cons (fun a u hc hdd hd hk hdep => ?_) ?_
      ·
        have d19 : (a.tmps[19]?).getD undef = (.string (T1 ++ (⟨#[32]⟩ : ByteArray) ++ T2 ++ (⟨#[58]⟩ : ByteArray))) := hdep ⟨8, .data⟩ (by simp) rfl
        refine G.step_val KC KD hc hdd rfl (.string (T1 ++ (⟨#[32]⟩ : ByteArray) ++ T2 ++ (⟨#[58]⟩ : ByteArray))) u (G.wanted_plain rfl) ?_ rfl (Below.refl _ _)
        first | (go_simp; done) | rfl | (simp [go_sem, *]; done)
      exact G.stepsL_nil
    intro vs' wN hN hh
    have e9 : vs' 9 = .string (T1 ++ ⟨#[32]⟩ ++ T2 ++ ⟨#[58]⟩) := by
      obtain ⟨-, -, -, -, -, -, -, -, -, eX, -⟩ := hh
      exact eX
    clear hh
    obtain ⟨n0, n1, n2, hA2, hW⟩ := hN
    set_option maxRecDepth 100000 in simp only [List.take_succ_cons, List.take_zero, putAll, Act.put, List.setIfInBounds_toArray, List.set_cons_zero, List.set_cons_succ, Nat.reduceAdd, e9]
    have hs0 : (T1 ++ ⟨#[32]⟩ ++ T2 ++ ⟨#[58]⟩ : ByteArray).data.toList ++ partsB 0 bs = FL := by rw [← hst.out]; simp [ByteArray.toList_data_append]
    generalize (T1 ++ ⟨#[32]⟩ ++ T2 ++ ⟨#[58]⟩ : ByteArray) = S0 at *
    replace hA2 := Lib.hid hA2
    replace hs0 := Lib.hid hs0
    clear hst D1 D2 t1 t2 t3 base
    go_wp2_with fail
    go_loopw [3, 23] (fun v i wr => ∃ (k : Nat) (s : ByteArray), k ≤ bs.length ∧ i = .int .i64 (k : Int) ∧ v = .string s ∧ s.data.toList ++ partsB k (bs.drop k) = FL ∧ Below wN.heap.size wN wr) (fun _ i _ => bs.length - (intOf i).toNat)
    case atStart => exact ⟨0, S0, Nat.zero_le _, rfl, rfl, hs0.out, Below.refl _ _⟩
    case round =>
      clear hs0 n0 n1 n2
      obtain ⟨k, s, hk, rfl, rfl, hdn, J⟩ := hrel
      have k0 : (0 : Int) ≤ (k : Int) := by omega
      have hsl : s.data.toList.length = s.size := Array.length_toList
      by_cases hlt : k < bs.length
      · obtain ⟨b, off, rfl, hc⟩ := hA2.out (by omega)
        obtain ⟨uu, q0, A2, c9, rfl, hI⟩ := hc k _ (List.getElem?_eq_getElem hlt)
        have q0 := cell_later J q0
        have hl := hx2.out _ (List.getElem_mem hlt)
        have hrl := Lib.hid (hr.out _ (List.getElem_mem hlt))
        have k1 : (k : Int) < (bs.length : Int) := by omega
        clear hc
        rw [drop_at hlt] at hdn
        simp only [partsB] at hdn
        generalize bs[k] = xs at *
        replace hI := Lib.hid hI
        by_cases hk0 : 0 < k
        · rw [if_pos hk0] at hdn
          have k2 : (0 : Int) < (k : Int) := by omega
          have lq0 : s.size + 1 ≤ FL.length := by rw [← hdn, ← hsl]; simp
          have lq3 : ¬ 9223372036854775807 < s.size + 1 := by omega
          replace hdn := Lib.hid hdn
          clear hsl lq0
          go_wp2_with fail
          have hdn3 : (s ++ ⟨#[59]⟩ : ByteArray).data.toList ++ (placesB xs ++ partsB (k + 1) (bs.drop (k + 1))) = FL := by rw [← hdn.out]; simp [ByteArray.toList_data_append]
          generalize (s ++ ⟨#[59]⟩ : ByteArray) = s1 at *
          clear lq3 hdn
          replace hdn3 := Lib.hid hdn3
          go_loopw [3, 34] (fun v i wr => ∃ (j : Nat) (s2 : ByteArray), j ≤ xs.length ∧ i = .int .i64 (j : Int) ∧ v = .string s2 ∧ s2.data.toList ++ (placesB (xs.drop j) ++ partsB (k + 1) (bs.drop (k + 1))) = FL ∧ Below wN.heap.size wN wr) (fun _ i _ => xs.length - (intOf i).toNat)
          case atStart => exact ⟨0, s1, Nat.zero_le _, rfl, rfl, hdn3.out, J⟩
          case round =>
            obtain ⟨j, s2, hj, rfl, rfl, hdn2, J2⟩ := hrel
            have j0 : (0 : Int) ≤ (j : Int) := by omega
            have hsl2 : s2.data.toList.length = s2.size := Array.length_toList
            clear q0 hdn3
            by_cases hjl : j < xs.length
            · obtain ⟨b2, off2, rfl, hc2⟩ := hI.out (by omega)
              have q1 := cell_later J2 (hc2 j _ (List.getElem?_eq_getElem hjl))
              have hxr := hrl.out _ (List.getElem_mem hjl)
              have j1 : (j : Int) < (xs.length : Int) := by omega
              clear hc2
              rw [drop_at hjl] at hdn2
              simp only [placesB] at hdn2
              generalize xs[j] = x at *
              have lq : s2.size + 1 + (Lib.itoa x).length ≤ FL.length := by rw [← hdn2, ← hsl2]; simp; omega
              have DX := fun w => rdecimal_any x w (by omega) (by omega)
              have hzx : (⟨(Lib.itoa x).toArray⟩ : ByteArray).size = (Lib.itoa x).length := txt_size _
              have hdn4 : (s2 ++ ((⟨#[32]⟩ : ByteArray) ++ ⟨(Lib.itoa x).toArray⟩)).data.toList ++ (placesB (xs.drop (j + 1)) ++ partsB (k + 1) (bs.drop (k + 1))) = FL := by rw [← hdn2]; simp [ByteArray.toList_data_append]
              generalize (⟨(Lib.itoa x).toArray⟩ : ByteArray) = TX at *
              have lq1 : ¬ 9223372036854775807 < 1 + TX.size := by omega
              have lq2 : ¬ 9223372036854775807 < s2.size + (1 + TX.size) := by omega
              replace hdn4 := Lib.hid hdn4
              replace DX := Lib.hid DX
              clear hdn2 hsl2 lq hzx
              go_wp2_with (go_at_call 18; refine (DX.out _).mono ?_; rintro e w8 ⟨rfl, hb8⟩)
              have J8 := mmore J2 hb8
              go_roundw
              case rel => exact ⟨j + 1, _, by omega, by go_num, rfl, hdn4.out, J8⟩
              case measure => simp [intOf]; omega
            · have hje : j = xs.length := by omega
              have j1 : ¬ (j : Int) < (xs.length : Int) := by omega
              rw [drop_end hjl] at hdn2
              simp only [placesB, List.nil_append] at hdn2
              subst hje
              replace hdn2 := Lib.hid hdn2
              go_wp2_with fail
              go_roundw
              case rel => exact ⟨k + 1, s2, by omega, by go_num, rfl, hdn2.out, J2⟩
              case measure => simp [intOf]; omega
        · rw [if_neg hk0] at hdn
          have k2 : ¬ (0 : Int) < (k : Int) := by omega
          have hdn3 : s.data.toList ++ (placesB xs ++ partsB (k + 1) (bs.drop (k + 1))) = FL := by rw [← hdn]; simp
          generalize s = s1 at *
          clear hdn hsl
          replace hdn3 := Lib.hid hdn3
          go_wp2_with fail
          replace hdn3 := hdn3.out
          replace hdn3 := Lib.hid hdn3
          go_loopw [3, 34] (fun v i wr => ∃ (j : Nat) (s2 : ByteArray), j ≤ xs.length ∧ i = .int .i64 (j : Int) ∧ v = .string s2 ∧ s2.data.toList ++ (placesB (xs.drop j) ++ partsB (k + 1) (bs.drop (k + 1))) = FL ∧ Below wN.heap.size wN wr) (fun _ i _ => xs.length - (intOf i).toNat)
          case atStart => exact ⟨0, s1, Nat.zero_le _, rfl, rfl, hdn3.out, J⟩
          case round =>
            obtain ⟨j, s2, hj, rfl, rfl, hdn2, J2⟩ := hrel
            have j0 : (0 : Int) ≤ (j : Int) := by omega
            have hsl2 : s2.data.toList.length = s2.size := Array.length_toList
            clear q0 hdn3
            by_cases hjl : j < xs.length
            · obtain ⟨b2, off2, rfl, hc2⟩ := hI.out (by omega)
              have q1 := cell_later J2 (hc2 j _ (List.getElem?_eq_getElem hjl))
              have hxr := hrl.out _ (List.getElem_mem hjl)
              have j1 : (j : Int) < (xs.length : Int) := by omega
              clear hc2
              rw [drop_at hjl] at hdn2
              simp only [placesB] at hdn2
              generalize xs[j] = x at *
              have lq : s2.size + 1 + (Lib.itoa x).length ≤ FL.length := by rw [← hdn2, ← hsl2]; simp; omega
              have DX := fun w => rdecimal_any x w (by omega) (by omega)
              have hzx : (⟨(Lib.itoa x).toArray⟩ : ByteArray).size = (Lib.itoa x).length := txt_size _
              have hdn4 : (s2 ++ ((⟨#[32]⟩ : ByteArray) ++ ⟨(Lib.itoa x).toArray⟩)).data.toList ++ (placesB (xs.drop (j + 1)) ++ partsB (k + 1) (bs.drop (k + 1))) = FL := by rw [← hdn2]; simp [ByteArray.toList_data_append]
              generalize (⟨(Lib.itoa x).toArray⟩ : ByteArray) = TX at *
              have lq1 : ¬ 9223372036854775807 < 1 + TX.size := by omega
              have lq2 : ¬ 9223372036854775807 < s2.size + (1 + TX.size) := by omega
              replace hdn4 := Lib.hid hdn4
              replace DX := Lib.hid DX
              clear hdn2 hsl2 lq hzx
              go_wp2_with (go_at_call 18; refine (DX.out _).mono ?_; rintro e w8 ⟨rfl, hb8⟩)
              have J8 := mmore J2 hb8
              go_roundw
              case rel => exact ⟨j + 1, _, by omega, by go_num, rfl, hdn4.out, J8⟩
              case measure => simp [intOf]; omega
            · have hje : j = xs.length := by omega
              have j1 : ¬ (j : Int) < (xs.length : Int) := by omega
              rw [drop_end hjl] at hdn2
              simp only [placesB, List.nil_append] at hdn2
              subst hje
              replace hdn2 := Lib.hid hdn2
              go_wp2_with fail
              go_roundw
              case rel => exact ⟨k + 1, s2, by omega, by go_num, rfl, hdn2.out, J2⟩
              case measure => simp [intOf]; omega
      · have hke : k = bs.length := by omega
        have k1 : ¬ (k : Int) < (bs.length : Int) := by omega
        rw [drop_end hlt] at hdn
        simp only [partsB, List.append_nil] at hdn
        subst hke
        have hfin : (⟨FL.toArray⟩ : ByteArray) = s := by rw [← hdn]
        replace hdn := Lib.hid hdn
        go_wp2_with fail
        exact bodyPost_ret (v := .string s) (by simp [results, Tryd.results8, go_sem]) rfl ⟨by first | rfl | rw [hfin], mmore bu (mmore hW J)⟩
end Go.Proofs.YtmebbhlebehliaaDoor
